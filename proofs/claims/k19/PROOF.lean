import PyProof.Rows.All
import Wide.All
import OpenK.AllK
import Wide.FinOn
import KE.KStateDown
import HandS.Head0
import HandS.Head1
import HandS.Head2
import HandS.HeadEnd
import HandS.HeadHook1
import HandS.HeadHook2
import HandS.ExcInit
import HandS.ForMost
import HandS.DictComp
import HandS.SetBool
import HandS.Walk
import HandS.DictTup
import HandS.TupLen
import HandS.Conv
import KE.KDictPairs
import KE.KDictZip
import KE.KDictCopyH
import KE.KDictDisplayH
import KE.SortData
import HandS.Set
import HandS.TupSets
import PyProof.Rows.SortShellAny
import HandS.Text
import HandS.IsInst
import HandS.More
import HandS.Style
import KE.KEqDict
import PyProof.StrBlock2
import PyProof.ListStr
import KE.KMulAny
import HandS.Wide
import HandS.WideBits
import HandS.Defaults
import HandS.Zip
import HandS.OwnEq
import HandS.MakeKwOnly
import PyProof.InstEq
import HandS.SetFor
import HandS.ListItems
import KE.KDictList
import HandS.RevRange
import HandS.WordsDict
import HandS.NoneIn
import HandS.Finally
import HandS.Evl
import HandS.Deep
import PySem.Challenge.RW_kindtwice_k19_whole_doublings_and_halvin
set_option Elab.async false
set_option maxRecDepth 100000
namespace KT
open PySem L2 PyProof.Rows
def top (i : Nat) : Stmt := PySem.Challenge.pw_kindtwice_k19_whole_doublings_and_halvin.main.body.getD i (.Pass ⟨0, 0, 0, 0⟩)
abbrev sPurse : Stmt := top 49
abbrev sMixed : Stmt := top 50
abbrev sDraw : Stmt := top 51
abbrev sPurses : Stmt := top 52
abbrev sOneOf : Stmt := top 53
abbrev sWord : Stmt := top 55
abbrev sExact : Stmt := top 54
abbrev sWords : Stmt := top 56
abbrev sPlain : Stmt := top 57
abbrev sWide : Stmt := top 58
abbrev sTwofold : Stmt := top 59
abbrev sTwin : Stmt := top 60
abbrev sLeading : Stmt := top 61
abbrev sCyclic : Stmt := top 62
abbrev sAny : Stmt := top 63
abbrev sTable : Stmt := top 64
abbrev pIsWord : Stmt := top 13
abbrev pIsTable : Stmt := top 17
abbrev pIsPair : Stmt := top 18
abbrev pIsFull : Stmt := top 19
abbrev pIsFree : Stmt := top 20
abbrev pIsKind : Stmt := top 21
abbrev pIsKinds : Stmt := top 22
abbrev pCheckKinds : Stmt := top 23
abbrev pCheckKind : Stmt := top 24
abbrev pOwnSquares : Stmt := top 27
abbrev kInit : Stmt := inClass (top 16) 0
abbrev kTable : Stmt := inClass (top 16) 1
abbrev kWords : Stmt := inClass (top 16) 2
abbrev kPut : Stmt := inClass (top 16) 3
abbrev kEq : Stmt := inClass (top 16) 4
abbrev pOpposite : Stmt := top 26
abbrev sKindsOf : Stmt := top 65
abbrev sSquares : Stmt := top 66
abbrev sLaw : Stmt := top 79
abbrev pIsAsc : Stmt := top 14
abbrev sInit : Stmt := inClass (top 29) 0
abbrev sKinds : Stmt := inClass (top 29) 1
abbrev sDeeds : Stmt := inClass (top 29) 2
abbrev sTwice : Stmt := inClass (top 29) 3
abbrev sEq : Stmt := inClass (top 29) 4
abbrev pAreDeeds : Stmt := top 30
abbrev pIsTwice : Stmt := top 31
abbrev pCheckSetting : Stmt := top 32
abbrev pCheckLog : Stmt := top 33
abbrev pKindsOfDeeds : Stmt := top 35
abbrev pIsLog : Stmt := top 36
abbrev sSetting : Stmt := top 67
abbrev sLog : Stmt := top 69
abbrev sKind : Stmt := top 70
abbrev sMay : Stmt := top 71
abbrev sMade : Stmt := top 75
abbrev sDb : Stmt := top 72
abbrev sHv : Stmt := top 73
abbrev pStretch : Stmt := top 40
abbrev sTwS : Stmt := top 42
abbrev sDiff : Stmt := top 43
abbrev sDbls : Stmt := top 44
abbrev sHvs : Stmt := top 46
abbrev sHalf : Stmt := top 45
abbrev pOppSet : Stmt := top 38
abbrev sTwoL : Stmt := top 34
abbrev sIsDb : Stmt := top 47
abbrev sLDb : Stmt := top 74
abbrev sLR : Stmt := top 76
abbrev sGR : Stmt := top 77
abbrev sFR : Stmt := top 78
abbrev sClosed : Stmt := top 68
abbrev pPutAll : Stmt := top 25
abbrev pKindOf : Stmt := top 37
end KT
set_option Elab.async false
set_option linter.all false
set_option maxRecDepth 100000
set_option maxHeartbeats 0
namespace KT
open PySem PySem.Spec PyProof.Rows L2
def kC (K : PySem.W.Frag) : Addr := He.ga K "Kinds"
def sC (K : PySem.W.Frag) : Addr := He.ga K "Setting"
def oneB (K : PySem.W.Frag) (x : Str) : Bool :=
  He.eqO (PySem.W.findIn K (.ref (He.ga K x)) "__class__") (some (some (.builtin "object.__class__"))) && (decide (PySem.W.mroIn K (He.ga K x) (.type "object") = some true) && (decide (PySem.W.kitOne K (.ref (He.ga K x)) (.ref (He.ga K x)) = some true) &&
  (He.eqO (PySem.W.findIn K (.ref (He.ga K x)) "__eq__") (some (some (.ref (He.fAd K (x, some "__eq__"))))) && (PySem.W.isFn K (.ref (He.fAd K (x, some "__eq__"))) && (He.eqO (PySem.W.findIn K (.ref (He.ga K x)) "__ne__") (some (some (.builtin "object.__ne__"))) &&
  PySem.W.notFirst K (He.ga K x) (.ref (He.ga K x)))))))
def kitB2 (K : PySem.W.Frag) : Bool := [Value.type "NoneType", .type "int", .type "dict", .type "list", .type "tuple", .ref (kC K)].all fun t => decide (PySem.W.kitOne K t (.ref (sC K)) = some false) && PySem.W.notFirst K (sC K) t
def myB (K : PySem.W.Frag) : Bool :=
  He.eqO (PySem.W.specialIn K (.builtin "object.__class__") "__get__") (some (some (.builtin "getset_descriptor.__get__"))) && (decide (PySem.W.takesIn K (.builtin "object.__class__") = some true) && (kitB2 K && (oneB K "Kinds" && oneB K "Setting")))
abbrev AlX : Type := He.AlD × Bool
def frX (g : Addr → Option Obj) : PySem.W.Frag := He.frG g (List.range 1500)
def obsX (fa : List He.Fa) (fn : List He.DefD) (g : Addr → Option Obj) : AlX := (He.obsD fa fn (frX g), myB (frX g))
def hookX (fa : List He.Fa) (fn : List He.DefD) : PySem.W.Hook where
  α := AlX
  obs := fun s => obsX fa fn s.heap.get?
  val := fun _ => (He.valD fn, true)
  says := fun _ h => ∃ K : PySem.W.Frag, K.In h ∧ He.SaysD fa fn K ∧ myB K = true
  of := fun _ _ e => ⟨_, He.frG_in, congrArg Prod.fst e, congrArg Prod.snd e⟩
  keeps := fun _ _ _ ⟨K, hK, c⟩ k => ⟨K, PySem.W.Frag.In.keeps hK k, c⟩
theorem obsX_eq {fa : List He.Fa} {fn : List He.DefD} {g : Addr → Option Obj} {s : Shared} (h : ∀ a, g a = s.heap.get? a) : obsX fa fn g = (hookX fa fn).obs s := by
  have e : g = s.heap.get? := funext h
  rw [e] <;> rfl
end KT
set_option Elab.async false
set_option linter.all false
set_option maxRecDepth 100000
set_option maxHeartbeats 0
namespace KT
open PySem PySem.Spec PyProof.Rows L2
def lawD (x : Str) (st : Stmt) : He.DefD := ⟨(x, none), x, x, defArgs st, defBody st, defScope st, [], []⟩
def mthD (cls m qual : Str) (st : Stmt) : He.DefD := ⟨(cls, some m), m, qual, defArgs st, defBody st, defScope st, [], []⟩
def fn1 : List He.DefD := [lawD "is_word" pIsWord,
  lawD "is_ascending" pIsAsc,
  lawD "_is_pair" pIsPair,
  lawD "_is_full" pIsFull,
  lawD "_is_free_of_brackets" pIsFree,
  lawD "_is_table" pIsTable,
  mthD "Kinds" "__init__" "Kinds.__init__" kInit,
  mthD "Kinds" "table" "Kinds.table" kTable,
  mthD "Kinds" "words" "Kinds.words" kWords,
  lawD "is_kind" pIsKind,
  lawD "check_kind" pCheckKind,
  lawD "check_kinds" pCheckKinds,
  mthD "Kinds" "put" "Kinds.put" kPut,
  mthD "Kinds" "__eq__" "Kinds.__eq__" kEq,
  lawD "is_list_of_kinds" pIsKinds,
  lawD "put_all" pPutAll,
  lawD "own_squares" pOwnSquares,
  lawD "_are_deeds" pAreDeeds,
  lawD "_is_twice" pIsTwice,
  mthD "Setting" "__init__" "Setting.__init__" sInit,
  mthD "Setting" "kinds" "Setting.kinds" sKinds,
  mthD "Setting" "deeds" "Setting.deeds" sDeeds,
  mthD "Setting" "twice" "Setting.twice" sTwice,
  mthD "Setting" "__eq__" "Setting.__eq__" sEq,
  lawD "check_setting" pCheckSetting,
  lawD "is_log" pIsLog,
  lawD "check_log" pCheckLog,
  lawD "kinds_of_deeds" pKindsOfDeeds,
  lawD "kind_of" pKindOf,
  lawD "opposite" pOpposite,
  lawD "opposite_setting" pOppSet,
  lawD "check_two_logs" sTwoL,
  lawD "stretch_kinds" pStretch]
def fn2 : List He.DefD := [lawD "_twice_stretches" sTwS,
  lawD "_different" sDiff,
  lawD "doublings" sDbls,
  lawD "_halved" sHalf,
  lawD "halvings" sHvs,
  lawD "is_doubling" sIsDb,
  lawD "_law_purse" sPurse,
  lawD "_law_mixed" sMixed,
  lawD "_law_draw" sDraw,
  lawD "_law_purses" sPurses,
  lawD "_law_one_of" sOneOf,
  lawD "_law_exact" sExact,
  lawD "_law_word" sWord,
  lawD "_law_words" sWords,
  lawD "_law_plain_table" sPlain,
  lawD "_law_wide_table" sWide,
  lawD "_law_twofold_table" sTwofold,
  lawD "_law_twin_table" sTwin,
  lawD "_law_leading_table" sLeading,
  lawD "_law_cyclic_table" sCyclic,
  lawD "_law_any_table" sAny,
  lawD "_law_table" sTable,
  lawD "_law_kinds_of" sKindsOf,
  lawD "_law_squares" sSquares,
  lawD "_law_setting" sSetting,
  lawD "_law_log" sLog,
  lawD "_law_kind" sKind,
  lawD "_law_made" sMade,
  lawD "_law_may_twice" sMay,
  lawD "_law_doublings" sDb,
  lawD "_law_halvings" sHv,
  lawD "_law_closed" sClosed,
  lawD "_law_is_doubled" sLDb]
def fn3 : List He.DefD := [lawD "_law_log_right" sLR,
  lawD "_law_great_right" sGR,
  lawD "_law_fixed_right" sFR,
  lawD "law" sLaw]
def fn : List He.DefD := fn1 ++ fn2 ++ fn3
def fa0 : List He.Fa := [.glo "is_word", .glo "is_ascending", .glo "_is_pair", .glo "_is_full", .glo "_is_free_of_brackets", .glo "_is_table", .glo "is_kind", .glo "check_kind", .glo "check_kinds", .glo "is_list_of_kinds", .glo "put_all", .glo "own_squares", .glo "_are_deeds", .glo "_is_twice", .glo "check_setting", .glo "is_log", .glo "check_log", .glo "kinds_of_deeds", .glo "kind_of", .glo "opposite", .glo "opposite_setting", .glo "check_two_logs", .glo "stretch_kinds", .glo "_twice_stretches", .glo "_different", .glo "doublings", .glo "_halved", .glo "halvings", .glo "is_doubling", .glo "_law_purse"]
def fa1 : List He.Fa := [.glo "_law_mixed", .glo "_law_draw", .glo "_law_purses", .glo "_law_one_of", .glo "_law_exact", .glo "_law_word", .glo "_law_words", .glo "_law_plain_table", .glo "_law_wide_table", .glo "_law_twofold_table", .glo "_law_twin_table", .glo "_law_leading_table", .glo "_law_cyclic_table", .glo "_law_any_table", .glo "_law_table", .glo "_law_kinds_of", .glo "_law_squares", .glo "_law_setting", .glo "_law_log", .glo "_law_kind", .glo "_law_made", .glo "_law_may_twice", .glo "_law_doublings", .glo "_law_halvings", .glo "_law_closed", .glo "_law_is_doubled", .glo "_law_log_right", .glo "_law_great_right", .glo "_law_fixed_right", .glo "law"]
def fa2 : List He.Fa := [.glo "Kinds", .cls "Kinds", .noat "Kinds" "_table", .noat "Kinds" "_words", .meth "Kinds" "table", .meth "Kinds" "words", .meth "Kinds" "put", .mkr "Kinds", .glo "Setting", .cls "Setting", .noat "Setting" "_kinds", .noat "Setting" "_deeds", .noat "Setting" "_twice", .meth "Setting" "kinds", .meth "Setting" "deeds", .meth "Setting" "twice", .mkr "Setting", .str "LETTERS" "abcdefghijklmnopqrstuvwxyz", .int "LONGEST_WORD" 8, .free "int", .free "max", .free "min", .free "sum", .free "len", .free "range", .free "isinstance", .free "all", .free "sorted", .free "str", .free "bool"]
def fa3 : List He.Fa := [.free "tuple", .free "list", .free "dict", .free "zip", .free "any", .free "set", .free "reversed", .free "enumerate"]
def fa : List He.Fa := fa0 ++ fa1 ++ fa2 ++ fa3
abbrev R : PySem.W.OpenRow := PySem.W.OpenLaw.row PySem.Challenge.rw_kindtwice_k19_whole_doublings_and_halvin
abbrev hk : PySem.W.Hook := hookX fa fn
def ob (s : PySem.W.SharedT) : AlX := obsX fa fn (HandSHeadRun.getT s)
theorem ob_eq (s : PySem.W.SharedT) : ob s = hk.obs s.abs := obsX_eq (HandSHeadRun.getT_eq s)
def loose0 : List Str := ["TwiceError", "InvalidTable", "InvalidKind", "InvalidKinds", "InvalidDeeds", "InvalidTwice", "InvalidSetting", "InvalidLog", "Refused", "LETTERS", "LONGEST_WORD", "is_word", "is_ascending", "Kinds", "_is_table", "_is_pair"]
def loose1 : List Str := ["_is_full", "_is_free_of_brackets", "is_kind", "is_list_of_kinds", "check_kinds", "check_kind", "put_all", "opposite", "own_squares", "Setting", "_are_deeds", "_is_twice", "check_setting", "check_log", "check_two_logs", "kinds_of_deeds"]
def loose2 : List Str := ["is_log", "kind_of", "opposite_setting", "stretch_kinds", "_twice_stretches", "_different", "doublings", "_halved", "halvings", "is_doubling", "_law_purse", "_law_mixed", "_law_draw", "_law_purses", "_law_one_of", "_law_exact"]
def loose3 : List Str := ["_law_word", "_law_words", "_law_plain_table", "_law_wide_table", "_law_twofold_table", "_law_twin_table", "_law_leading_table", "_law_cyclic_table", "_law_any_table", "_law_table", "_law_kinds_of", "_law_squares", "_law_setting", "_law_closed", "_law_log", "_law_kind"]
def loose4 : List Str := ["_law_may_twice", "_law_doublings", "_law_halvings", "_law_is_doubled", "_law_made", "_law_log_right", "_law_great_right", "_law_fixed_right"]
abbrev loose : List Str := loose0 ++ loose1 ++ loose2 ++ loose3 ++ loose4
theorem run (w : World) : HandSHeadRun.RunEq R (PySem.W.view R.prog [79]) hk ob 60000 loose w := by
  intro os
  kernel_rfl
end KT
set_option Elab.async false
set_option linter.all false
set_option maxRecDepth 100000
namespace GC
open PySem PySem.Spec PyProof.Rows L2
abbrev NoE : Value → Shared → Prop := fun _ _ => False
section
variable {prog : Program} {w : World} {A : Around} {R : Result → Shared → Prop} {s : Shared} {env : Env} {it acc : Value}
/-- what the last clause of a comprehension does with an item that passed the tests -/
def Emit (prog : Program) (w : World) (A : Around) (env : Env) (acc : Value) : Expr → (Shared → Prop) → Shared → Prop
  | .ListComp elt _ _ _, Q, s => wpAny (model prog w) A (eval elt env) (fun x s => wpAny (model prog w) A (call (.builtin "list.append") [acc, x]) (fun _ s => Q s) NoE s) NoE s
  | .SetComp elt _ _ _, Q, s => wpAny (model prog w) A (eval elt env) (fun x s => wpAny (model prog w) A (call (.builtin "set.add") [acc, x]) (fun _ s => Q s) NoE s) NoE s
  | .DictComp k v _ _ _, Q, s => ∃ D, acc = .ref D ∧ wpAny (model prog w) A (eval k env) (fun x s => wpAny (model prog w) A (eval v env) (fun y s => wpAny (model prog w) A (dictSet D x y) (fun _ s => Q s) NoE s) NoE s) NoE s
  | _, _, _ => False
/-- what one turn of a clause comes to, D what follows the tests -/
def Turned (prog : Program) (w : World) (A : Around) (env : Env) (it : Value) (tg : Expr) (ifs : List Expr) (Done : Shared → Prop) (Dp : (Shared → Prop) → Shared → Prop) (Nx : Shared → Prop) (s : Shared) : Prop :=
  wpAny (model prog w) A (pyNext it) (fun r s₁ => match r with
    | none => Done s₁
    | some v => wpAny (model prog w) A (letOwnedTupleGo tg it v) (fun _ s₂ => wpAny (model prog w) A (assign tg env v) (fun _ s₃ =>
        wpAny (model prog w) A (forIn ifs true fun c r => if r = true then do let ok ← isTrue c env (eval c env); pure (ForInStep.yield ok) else pure (ForInStep.yield r)) (fun ok s₄ => if ok = true then Dp Nx s₄ else Nx s₄) NoE s₃) NoE s₂) NoE s₁) NoE s
def Deep (prog : Program) (w : World) (A : Around) (env : Env) (acc : Value) (e : Expr) (d : Nat) (g : Comprehension) (Nx : Shared → Prop) (s : Shared) : Prop :=
  wpAny (model prog w) A (eval g.iter env) (fun x s => wpAny (model prog w) A (pyIter x) (fun it1 s => codeAny (model prog w) A (.compStart e (d + 1) it1 acc env) (fun r s' => match r with
    | .ok _ => Nx s'
    | .error _ => False) s) NoE s) NoE s
inductive Kd : Expr → List Comprehension → Prop
  | l (elt gens scope pos) : Kd (.ListComp elt gens scope pos) gens
  | s (elt gens scope pos) : Kd (.SetComp elt gens scope pos) gens
  | d (k v gens scope pos) : Kd (.DictComp k v gens scope pos) gens
theorem loop_last {e : Expr} {gens : List Comprehension} {d : Nat} {tg iter : Expr} {ifs : List Expr} (K : Kd e gens) (hd : gens[d]? = some ⟨tg, iter, ifs, 0⟩) (hl : gens[d + 1]? = none) (I : Nat → Shared → Prop)
    (turn : ∀ n s, I n s → Turned prog w A env it tg ifs (R (.ok .next)) (Emit prog w A env acc e) (fun s' => ∃ m, m < n ∧ I m s') s) (n : Nat) (h : I n s) : codeAny (model prog w) A (.compLoop e d it acc env) R s := by
  cases K
  all_goals
    refine codeAny_loop rfl I (fun n s hI => ?_) n h
    refine wpAny_noted (M := model prog w) ?_
    unfold compTurn; dsimp only; rw [hd, hl]; dsimp only
    refine wpAny_bind (wpAny_standAt (wpAny_bind (wpAny_mono (turn n s hI) (fun r s₁ h₁ => ?_) fun _ _ z => z.elim)))
    cases r with
    | none => exact wpAny_pure h₁
    | some v =>
      refine wpAny_bind (wpAny_mono h₁ (fun _ s₂ h₂ => wpAny_bind (wpAny_mono h₂ (fun _ s₃ h₃ => wpAny_bind (wpAny_mono h₃ (fun ok s₄ h₄ => ?_) fun _ _ z => z.elim)) fun _ _ z => z.elim)) fun _ _ z => z.elim)
      cases ok with
      | false => exact wpAny_pure ⟨rfl, h₄⟩
      | true =>
        first
          | exact wpAny_bind (wpAny_bind (wpAny_mono h₄ (fun x s₄ h₄ => wpAny_bind (wpAny_mono h₄ (fun _ s₅ h₅ => wpAny_pure (wpAny_pure ⟨rfl, h₅⟩)) fun _ _ z => z.elim)) fun _ _ z => z.elim))
          | exact wpAny_bind (wpAny_bind (wpAny_mono h₄ (fun x s₄ h₄ => wpAny_bind (wpAny_standAt (wpAny_bind (wpAny_mono h₄ (fun _ s₅ h₅ => wpAny_pure (wpAny_pure ⟨rfl, h₅⟩)) fun _ _ z => z.elim)))) fun _ _ z => z.elim))
          | (obtain ⟨D, rfl, h₅⟩ := h₄
             exact wpAny_bind (wpAny_bind (wpAny_mono h₅ (fun x s₄ h₄ => wpAny_bind (wpAny_holding (wpAny_mono h₄ (fun y s₅ h₅ => wpAny_bind (wpAny_standAt (wpAny_holding (wpAny_mono h₅ (fun _ s₆ h₆ => wpAny_pure ⟨rfl, h₆⟩) fun _ _ z => z.elim)))) fun _ _ z => z.elim))) fun _ _ z => z.elim)))
theorem loop_more {e : Expr} {gens : List Comprehension} {d : Nat} {tg iter tg1 iter1 : Expr} {ifs ifs1 : List Expr} (K : Kd e gens) (hd : gens[d]? = some ⟨tg, iter, ifs, 0⟩) (hl : gens[d + 1]? = some ⟨tg1, iter1, ifs1, 0⟩) (hs : ∀ x, foldedSetIterable iter1 env x = pure x) (I : Nat → Shared → Prop)
    (turn : ∀ n s, I n s → Turned prog w A env it tg ifs (R (.ok .next)) (Deep prog w A env acc e d ⟨tg1, iter1, ifs1, 0⟩) (fun s' => ∃ m, m < n ∧ I m s') s) (n : Nat) (h : I n s) : codeAny (model prog w) A (.compLoop e d it acc env) R s := by
  cases K
  all_goals
    refine codeAny_loop rfl I (fun n s hI => ?_) n h
    refine wpAny_noted (M := model prog w) ?_
    unfold compTurn; dsimp only; rw [hd, hl]; dsimp only
    refine wpAny_bind (wpAny_standAt (wpAny_bind (wpAny_mono (turn n s hI) (fun r s₁ h₁ => ?_) fun _ _ z => z.elim)))
    cases r with
    | none => exact wpAny_pure h₁
    | some v =>
      refine wpAny_bind (wpAny_mono h₁ (fun _ s₂ h₂ => wpAny_bind (wpAny_mono h₂ (fun _ s₃ h₃ => wpAny_bind (wpAny_mono h₃ (fun ok s₄ h₄ => ?_) fun _ _ z => z.elim)) fun _ _ z => z.elim)) fun _ _ z => z.elim)
      cases ok with
      | false => exact wpAny_pure ⟨rfl, h₄⟩
      | true =>
        unfold Deep at h₄
        refine wpAny_bind (wpAny_mono h₄ (fun x s₅ h₅ => ?_) fun _ _ z => z.elim)
        refine wpAny_bind (wpAny_standAt (wpAny_bind (wpAny_of_eq (hs x) (wpAny_bind (wpAny_holding (wpAny_mono h₅ (fun it1 s₆ h₆ => ?_) fun _ _ z => z.elim))))))
        refine wpAny_bind (wpAny_runOwn ?_)
        rw [Around.mark_none]
        refine codeAny_mono h₆ fun r s' hr => ?_
        cases r with
        | ok f =>
          first
            | exact wpAny_pure ⟨rfl, hr⟩
            | exact wpAny_bind (wpAny_pure (wpAny_pure ⟨rfl, hr⟩))
        | error e => exact hr.elim
theorem start_any {e : Expr} {gens : List Comprehension} {d : Nat} {tg iter : Expr} {ifs : List Expr} (K : Kd e gens) (hd : gens[d]? = some ⟨tg, iter, ifs, 0⟩) (h0 : codeAny (model prog w) A (.compLoop e d it acc env) R s)
    (h : wpAny (model prog w) A (pyIter it) (fun it' s' => codeAny (model prog w) A (.compLoop e d it' acc env) R s') NoE s) : codeAny (model prog w) A (.compStart e d it acc env) R s := by
  cases K
  all_goals
    refine codeAny_of_tree ?_
    refine wpAny_notedAt (M := model prog w) ?_
    unfold compStart clausesOf
    rw [hd]
    refine wpAny_bind (wpAny_askSetting (wpAny_ite ?_))
    split
    · first
        | exact wpAny_bind (wpAny_pure (wpAny_pure (And.intro rfl h0)))
        | exact wpAny_pure (And.intro rfl h0)
    · first
        | exact wpAny_bind (wpAny_rule (wpAny_bind (wpAny_standAt (wpAny_bind (wpAny_mono h (fun it' s' h' => wpAny_pure (And.intro rfl h')) fun _ _ x => x.elim)))))
        | (refine wpAny_bind (wpAny_rule ?_); show wpAny _ _ (standAt iter.pos >>= _) _ _ s; exact wpAny_bind (wpAny_standAt (wpAny_bind (wpAny_mono h (fun it' s' h' => wpAny_pure (And.intro rfl h')) fun _ _ x => x.elim))))
end
/-- one clause: target, source, tests, with their readings and the places that the target stores to -/
structure Cl where
  tg : Expr
  iter : Expr
  ifs : List Expr
  wi : TI
  g : TG
  tt : TT
  vs : List Nat
def Cl.c (c : Cl) : Comprehension := ⟨c.tg, c.iter, c.ifs, 0⟩
/-- a clause's loop from the heap H: W by the turn and a measure; D what an item that passes comes to; End what stands at the end -/
def Lp (J : It) (g : TG) (tt : TT) (vs : List Nat) (D : L2.St → Hp → (Hp → Prop) → Prop) (σ : L2.St) (H : Hp) (End : Hp → Prop) : Prop :=
  ∃ W : Nat → Nat → Hp → Prop, (∃ m, W 0 m H) ∧ ∀ i m H, W i m H → (J.stop i H ∧ End H) ∨ (J.go i H ∧ ∃ Nx : Hp → Prop, (∀ H', Nx H' → ∃ m', m' < m ∧ W (i + 1) m' H') ∧
    ∀ x H', J.yld i H x H' → g x (wipe σ vs) H' fun σ2 H2 => wipe σ2 vs = wipe σ vs ∧ tt σ2 H2 fun b H3 => if b = true then D σ2 H3 Nx else Nx H3)
/-- what stands behind a clause's tests: the further clauses, at last the item's taking -/
def Rest (em : L2.St → Hp → (Hp → Prop) → Prop) : List Cl → L2.St → Hp → (Hp → Prop) → Prop
  | [], σ, H, Nx => em σ H Nx
  | c :: cs, σ, H, Nx => c.wi σ H fun J H1 => Lp J c.g c.tt c.vs (Rest em cs) σ H1 Nx
section
variable {X : Cx}
/-- what holds of each clause within the block B -/
structure ClOk (B : Cx) (c : Cl) : Prop where
  pg : PG B c.tg c.g
  pt : PTs B c.ifs c.tt
  hs : ∀ x, foldedSetIterable c.iter B.env x = pure x
abbrev EmOk (B : Cx) (acc : Value) (e : Expr) (em : L2.St → Hp → (Hp → Prop) → Prop) : Prop :=
  ∀ (pins : List (Addr × Obj)) (s : Shared) (σ : L2.St) (H : Hp) (Nx : Hp → Prop), Inv B pins σ H s → em σ H Nx → Emit B.prog B.w B.A B.env acc e (fun s' => ∃ H', Inv B pins σ H' s' ∧ Nx H') s
abbrev Knows (τ σ : L2.St) : Prop := τ.length = σ.length ∧ ∀ (j : Nat) v, τ[j]? = some (some v) → σ[j]? = some (some v)
theorem Knows.refl (σ : L2.St) : Knows σ σ := ⟨rfl, fun _ _ h => h⟩
theorem wipe_knows (σ : L2.St) (vs : List Nat) : Knows (wipe σ vs) σ := ⟨wipe_length _ _, fun _ _ e => (wipe_some e).1⟩
theorem wipe_wipe {σ : L2.St} {vs vs1 : List Nat} (h : ∀ i ∈ vs1, i ∈ vs) : Knows (wipe σ vs) (wipe σ vs1) := ⟨(wipe_length _ _).trans (wipe_length _ _).symm, fun j v e => by
  obtain ⟨e1, e2⟩ := wipe_some e
  rw [wipe_out fun z => e2 (h j z)]
  exact e1⟩
theorem Knows.trans {a b c : L2.St} (h : Knows a b) (k : Knows b c) : Knows a c := ⟨h.1.trans k.1, fun j v e => k.2 j v (h.2 j v e)⟩
/-- one turn of a clause -/
theorem turn_ok {B : Cx} {tg : Expr} {ifs : List Expr} {g : TG} {tt : TT} {vs : List Nat} {D : L2.St → Hp → (Hp → Prop) → Prop} {Dp : (Shared → Prop) → Shared → Prop} {σ : L2.St} {J : It} {fp : List Addr} {it : Addr} {tn : Nat → Heap → Prop} {End : Hp → Prop} {R : Result → Shared → Prop} {pins : List (Addr × Obj)}
    (hc : B.calm = true) (b1 : B.xe = NoE) (pg : PG B tg g) (pt : PTs B ifs tt) (T : Turn B.prog B.w B.K tg J fp it tn) (ffp : ∀ b ∈ fp, ∀ H', H' b = none → FpOk B pins H' b) (mono : ∀ {Q Q' : Shared → Prop} {s}, (∀ s', Q s' → Q' s') → Dp Q s → Dp Q' s)
    (deep : ∀ (pins' : List (Addr × Obj)) (s : Shared) (σ2 : L2.St) (H3 : Hp) (Nx : Hp → Prop), Inv B pins' σ2 H3 s → D σ2 H3 Nx → Dp (fun s' => ∃ σ9 H', Inv B pins' σ9 H' s' ∧ Knows (wipe σ2 vs) σ9 ∧ Nx H') s)
    {W : Nat → Nat → Hp → Prop} (turn : ∀ i m H, W i m H → (J.stop i H ∧ End H) ∨ (J.go i H ∧ ∃ Nx : Hp → Prop, (∀ H', Nx H' → ∃ m', m' < m ∧ W (i + 1) m' H') ∧
      ∀ x H', J.yld i H x H' → g x (wipe σ vs) H' fun σ2 H2 => wipe σ2 vs = wipe σ vs ∧ tt σ2 H2 fun b H3 => if b = true then D σ2 H3 Nx else Nx H3))
    (hR : ∀ s' H', Inv B pins (wipe σ vs) H' s' → End H' → R (.ok .next) s') (n : Nat) (s : Shared) (hI : ∃ i H', Inv B pins (wipe σ vs) H' s ∧ tn i s.heap ∧ (∀ b ∈ fp, H' b = none) ∧ W i n H') :
    Turned B.prog B.w B.A B.env (.ref it) tg ifs (R (.ok .next)) Dp (fun s' => ∃ m, m < n ∧ ∃ i H', Inv B pins (wipe σ vs) H' s' ∧ tn i s'.heap ∧ (∀ b ∈ fp, H' b = none) ∧ W i m H') s := by
  obtain ⟨i, H5, I5, st5, n5, w5⟩ := hI
  have stat : ∀ {H' : Hp}, (∀ b ∈ fp, H' b = none) → ∀ b ∈ fp, FpOk B pins H' b := fun hn b hb => ffp b hb _ (hn b hb)
  unfold Turned
  rcases turn i n H5 w5 with ⟨stop, qq⟩ | ⟨go, Nx, hNx, step⟩
  · refine thnF (T.done B rfl rfl rfl hc i pins s _ H5 NoE I5 (stat n5) st5 stop) fun r s6 ⟨hr, I6⟩ => ?_
    subst hr
    exact hR s6 H5 I6 qq
  · refine thnF (T.item B rfl rfl rfl hc i pins s _ H5 NoE I5 (stat n5) st5 go) fun r s6 ⟨u, hr, h6⟩ => ?_
    subst hr
    refine thnF h6 fun _ s7 ⟨x, H7, I7, r7, y7, st7, n7⟩ => ?_
    have I7' := I7.pinned (stat n7) (T.obj _ _ st7)
    have run1 := pg.run _ s7 _ H7 x u _ I7' r7 (step x H7 y7)
    rw [b1] at run1
    refine thnF run1 fun _ s8 ⟨σ8, H8, I8, hw8, q8⟩ => ?_
    have run2 := pt.run _ s8 σ8 H8 _ I8 q8
    rw [b1] at run2
    refine thnF run2 fun b s9 ⟨H9, I9, q9⟩ => ?_
    have fin : ∀ {σ9 : L2.St} {s' : Shared} {H' : Hp}, Inv B (pins ++ pinsAt fp s7.heap) σ9 H' s' → Knows (wipe σ vs) σ9 → Nx H' → ∃ m, m < n ∧ ∃ i H', Inv B pins (wipe σ vs) H' s' ∧ tn i s'.heap ∧ (∀ b ∈ fp, H' b = none) ∧ W i m H' := fun {σ9 s' H'} I' kn nx => by
      obtain ⟨m', hm, w'⟩ := hNx H' nx
      have pin' : ∀ b ∈ fp, ∀ o, s7.heap.get? b = some o → s'.heap.get? b = some o ∧ H' b = none := fun b hb o e =>
        let z := I'.pin (b, o) (List.mem_append_right _ (List.mem_append_right _ (mem_pinsAt hb e))); ⟨z.1, z.2.1⟩
      refine ⟨m', hm, i + 1, H', (I'.unpinned (pins := pins)).weak kn.1 kn.2, T.keep _ _ _ st7 fun b hb o e => (pin' b hb o e).1, fun b hb => ?_, w'⟩
      obtain ⟨o, e, _⟩ := T.obj _ _ st7 b hb
      exact (pin' b hb o e).2
    have k8 : Knows (wipe σ vs) σ8 := by
      rw [← hw8]
      exact wipe_knows σ8 vs
    cases b with
    | false => exact fin I9 k8 q9
    | true =>
      refine mono (fun s' h => ?_) (deep _ s9 σ8 H9 Nx I9 q9)
      obtain ⟨σ9, H', I', kn, nx⟩ := h
      rw [hw8] at kn
      exact fin I' kn nx
theorem emit_mono {prog : Program} {w : World} {A : Around} {env : Env} {acc : Value} {e : Expr} {Q Q' : Shared → Prop} {s : Shared} (h : ∀ s', Q s' → Q' s') (k : Emit prog w A env acc e Q s) : Emit prog w A env acc e Q' s := by
  unfold Emit at k ⊢
  split at k
  · exact wpAny_mono k (fun _ _ z => wpAny_mono z (fun _ _ q => h _ q) fun _ _ z => z) fun _ _ z => z
  · exact wpAny_mono k (fun _ _ z => wpAny_mono z (fun _ _ q => h _ q) fun _ _ z => z) fun _ _ z => z
  · obtain ⟨D, e, k⟩ := k
    exact ⟨D, e, wpAny_mono k (fun _ _ z => wpAny_mono z (fun _ _ q => wpAny_mono q (fun _ _ q => h _ q) fun _ _ z => z) fun _ _ z => z) fun _ _ z => z⟩
  · exact k
theorem deep_mono {prog : Program} {w : World} {A : Around} {env : Env} {acc : Value} {e : Expr} {d : Nat} {g : Comprehension} {Q Q' : Shared → Prop} {s : Shared} (h : ∀ s', Q s' → Q' s') (k : Deep prog w A env acc e d g Q s) : Deep prog w A env acc e d g Q' s := by
  unfold Deep at k ⊢
  refine wpAny_mono k (fun _ _ z => wpAny_mono z (fun _ _ q => codeAny_mono q fun r s' hr => ?_) fun _ _ z => z) fun _ _ z => z
  cases r with
  | ok f => exact h _ hr
  | error x => exact hr
def Nested : List Cl → Prop
  | c :: c1 :: cs => (∀ i ∈ c1.vs, i ∈ c.vs) ∧ Nested (c1 :: cs)
  | _ => True
theorem loop_ok {B : Cx} {e : Expr} {gens : List Comprehension} {acc : Value} {em : L2.St → Hp → (Hp → Prop) → Prop} (hc : B.calm = true) (b1 : B.xe = NoE) (K : Kd e gens) (he : EmOk B acc e em) :
    ∀ (cs : List Cl) (c : Cl) (d : Nat), gens.drop d = (c :: cs).map Cl.c → Nested (c :: cs) → (∀ x ∈ c :: cs, ClOk B x) → (∀ x ∈ cs, PI B x.tg x.iter x.wi) → ∀ (pins : List (Addr × Obj)) (s : Shared) (σ : L2.St) (H : Hp) (it : Addr) (fp : List Addr) (tn : Nat → Heap → Prop) (J : It) (End : Hp → Prop) (R : Result → Shared → Prop),
      Turn B.prog B.w B.K c.tg J fp it tn → Inv B pins (wipe σ c.vs) H s → tn 0 s.heap → (∀ b ∈ fp, ∀ H', H' b = none → FpOk B pins H' b) → (∀ b ∈ fp, H b = none) → Lp J c.g c.tt c.vs (Rest em cs) σ H End →
      (∀ s' H', Inv B pins (wipe σ c.vs) H' s' → End H' → R (.ok .next) s') → codeAny (model B.prog B.w) B.A (.compLoop e d (.ref it) acc B.env) R s := by
  intro cs
  induction cs with
  | nil =>
    intro c d hdr _ hok _ pins s σ H it fp tn J End R T I st ffp nfp lp hR
    have k := hok c (List.mem_singleton.mpr rfl)
    have g0 : gens[d]? = some ⟨c.tg, c.iter, c.ifs, 0⟩ := by
      have q := congrArg (·[0]?) hdr
      rw [List.getElem?_drop] at q
      exact q
    have g1 : gens[d + 1]? = none := by
      have q := congrArg (·[1]?) hdr
      rw [List.getElem?_drop] at q
      exact q
    obtain ⟨W, ⟨m0, w0⟩, turn⟩ := lp
    refine loop_last K g0 g1 (fun n s' => ∃ i H', Inv B pins (wipe σ c.vs) H' s' ∧ tn i s'.heap ∧ (∀ b ∈ fp, H' b = none) ∧ W i n H') (fun n s' h => ?_) m0 ⟨0, H, I, st, nfp, w0⟩
    exact turn_ok (Dp := Emit B.prog B.w B.A B.env acc e) hc b1 k.pg k.pt T ffp (fun h k => emit_mono h k) (fun pins' s σ2 H3 Nx I q => emit_mono (Q := fun s' => ∃ H', Inv B pins' σ2 H' s' ∧ Nx H') (fun s' h => by obtain ⟨H', I', nx⟩ := h; exact ⟨σ2, H', I', wipe_knows σ2 c.vs, nx⟩) (he pins' s σ2 H3 Nx I q)) turn hR n s' h
  | cons c1 cs ih =>
    intro c d hdr nst hok hpi pins s σ H it fp tn J End R T I st ffp nfp lp hR
    have k := hok c List.mem_cons_self
    have k1 := hok c1 (List.mem_cons_of_mem _ List.mem_cons_self)
    have g0 : gens[d]? = some ⟨c.tg, c.iter, c.ifs, 0⟩ := by
      have q := congrArg (·[0]?) hdr
      rw [List.getElem?_drop] at q
      exact q
    have g1 : gens[d + 1]? = some ⟨c1.tg, c1.iter, c1.ifs, 0⟩ := by
      have q := congrArg (·[1]?) hdr
      rw [List.getElem?_drop] at q
      exact q
    have dr1 : gens.drop (d + 1) = (c1 :: cs).map Cl.c := by
      rw [← List.tail_drop, hdr]
      rfl
    obtain ⟨W, ⟨m0, w0⟩, turn⟩ := lp
    refine loop_more K g0 g1 k1.hs (fun n s' => ∃ i H', Inv B pins (wipe σ c.vs) H' s' ∧ tn i s'.heap ∧ (∀ b ∈ fp, H' b = none) ∧ W i n H') (fun n s' h => ?_) m0 ⟨0, H, I, st, nfp, w0⟩
    refine turn_ok (Dp := Deep B.prog B.w B.A B.env acc e d ⟨c1.tg, c1.iter, c1.ifs, 0⟩) hc b1 k.pg k.pt T ffp (fun h k => deep_mono h k) (fun pins' s9 σ8 H9 Nx I9 q9 => ?_) turn hR n s' h
    unfold Deep
    have run := (hpi c1 List.mem_cons_self).run pins' s9 σ8 H9 _ I9 q9
    rw [b1] at run
    refine thnF run fun xv s10 hx => thnF hx fun itv s11 h11 => ?_
    obtain ⟨it1, fp1, tn1, J1, H11, e1, I11, T1, st11, f11, lp1⟩ := h11
    subst e1
    have lp1' := ih c1 (d + 1) dr1 nst.2 (fun x hx => hok x (List.mem_cons_of_mem _ hx)) (fun x hx => hpi x (List.mem_cons_of_mem _ hx)) pins' s11 σ8 H11 it1 fp1 tn1 J1 Nx
      (fun r s' => match r with
        | .ok _ => ∃ σ9 H', Inv B pins' σ9 H' s' ∧ Knows (wipe σ8 c.vs) σ9 ∧ Nx H'
        | .error _ => False) T1 (I11.weak (wipe_length _ _) fun j v e => (wipe_some e).1) st11 (fun b hb H' hn => ⟨hn, (f11 b hb).2⟩) (fun b hb => (f11 b hb).1) lp1
      (fun s' H' I' nx => ⟨wipe σ8 c1.vs, H', I', wipe_wipe nst.1, nx⟩)
    exact start_any K g1 lp1' (T1.self B.A 0 _ _ _ st11 lp1')
end
end GC
set_option Elab.async false
set_option linter.all false
set_option maxRecDepth 100000
namespace GC
open PySem PySem.Spec PyProof.Rows L2
section
variable {X : Cx}
/-- a new object of a comprehension: o0 at its address -/
def NewOk (prog : Program) (w : World) (new : Sem Value) (o0 : Addr → HO) : Prop :=
  ∀ (A : Around) (E : Value → Shared → Prop) (s : Shared) (Q : Value → Shared → Prop), (∀ ob : Obj, (∀ H', sysModules < s.heap.objs.size → ObjOk prog w H' (s.heap.push ob) s.heap.objs.size (o0 s.heap.objs.size)) → Q (.ref s.heap.objs.size) { s with heap := s.heap.push ob }) →
    wpAny (model prog w) A new Q E s
/-- the reading: D the new object -/
def tCo (o0 : Addr → HO) (c : Cl) (cs : List Cl) (em : Addr → L2.St → Hp → (Hp → Prop) → Prop) : TE := fun σ H Q => c.wi σ H fun J H1 => ∀ D, H1 D = none → Lp J c.g c.tt c.vs (Rest (em D) cs) σ (upd H1 D (o0 D)) (fun H' => Q (.ref D) H')
abbrev Blk (X : Cx) (scope : Scope) (F : Cx → Prop) : Prop := ∀ (s : Shared) (H : Hp) (C : Addr) (cl : List (Str × Addr)) (fp : List Addr), F (X.blk s H scope (compEnvC scope cl C X.env) fp)
theorem core {pins : List (Addr × Obj)} {s : Shared} {σ : L2.St} {H : Hp} {Q : VK} {e : Expr} {scope : Scope} {own : List (Str × Nat)} {pos' : Pos} {new : Sem Value} {o0 : Addr → HO} {c : Cl} {cs : List Cl} {em : Addr → L2.St → Hp → (Hp → Prop) → Prop} {use : Option (Value → Sem Unit)} {Qf : Value → Shared → Prop}
    (K : Kd e ((c :: cs).map Cl.c)) (hnew : NewOk X.prog X.w new o0) (hc : X.calm = true) (hN : X.N.Nodup) (I : Inv X pins σ H s) (hi : PI X c.tg c.iter c.wi) (ok : BlkOk X.N X.env.scope scope own) (hvs : c.vs = own.map (·.2)) (hs : ∀ x, foldedSetIterable c.iter X.env x = pure x)
    (nst : Nested (c :: cs)) (hok : ∀ x ∈ c :: cs, Blk X scope fun B => ClOk B x) (hpi : ∀ x ∈ cs, Blk X scope fun B => PI B x.tg x.iter x.wi) (hem : ∀ D, Blk X scope fun B => EmOk B (.ref D) e (em D))
    (h : tCo o0 c cs em σ H Q) (hRR : ∀ D C s' m H', Inv X pins σ H' s' → Q (.ref D) H' → s'.heap.Ns C m → FpOk X pins H' C → compPost (model X.prog X.w) X.A X.xe use Qf (.ref D) C (.ok .next) s') :
    wpAny (model X.prog X.w) X.A (comprehension e scope X.env pos' new false (eval c.iter X.env) use) Qf X.xe s := by
  have clE : clausesOf e = c.c :: cs.map Cl.c := by cases K <;> rfl
  have hfree : ∀ y ∈ scope.names, y.2 = .free → ∃ a, X.env.cells.lookup y.1 = some a := fun y hy q => (ok.free y hy q).elim (fun k => I.ok.has _ (.inl k)) fun k => I.ok.has _ (.inr k)
  refine wpAny_comprehension_free (use := use) clE hs (closure_ok hfree) ok.kind (fun y hy q => by rw [ok.uniq y hy, q]) (thn (hi.run pins s σ H _ I h) fun xv s1 hx => thn hx fun itv s2 h2 => ?_)
  obtain ⟨it, fp, tn, J, H2, rfl, I2, T, st2, f2, q⟩ := h2
  refine hnew _ _ s2 _ fun ob hob => newEnv_comp ?_
  generalize hD : s2.heap.objs.size = D
  have hDn : H2 D = none := I2.hok.fresh (Nat.le_of_eq hD)
  have lp := q D hDn
  generalize hs3 : ({ s2 with heap := s2.heap.push ob } : Shared) = s3
  have h3 : s3.heap = s2.heap.push ob := by rw [← hs3]
  have I3 : Inv X pins σ (upd H2 D (o0 D)) s3 := by
    rw [← hs3]
    refine I2.laid (t' := s2.toks) (fun b o z => Heap.get?_push_of_some _ z) (Nat.le_of_eq hD) ?_
    rw [← hD]
    exact hob _ I2.big
  have sz : ∀ b ∈ fp, b < s2.heap.objs.size := fun b hb => let ⟨o, z, _⟩ := T.obj _ _ st2 b hb; Heap.lt_size z
  have f3 : ∀ b ∈ fp, FpOk X pins (upd H2 D (o0 D)) b ∧ b < s3.heap.objs.size := fun b hb => by
    refine ⟨⟨?_, (f2 b hb).2⟩, by rw [h3, Heap.size_push]; exact Nat.lt_succ_of_lt (sz b hb)⟩
    rw [upd_ne (by rw [← hD]; exact Nat.ne_of_lt (sz b hb))]
    exact (f2 b hb).1
  have I4 := block_start I3 ok hN f3
  have aok := fun x hx => hok x hx s3 (upd H2 D (o0 D)) s3.heap.objs.size (cellsFrom (s3.heap.objs.size + 1) scope.names (cloFrom X.env.cells scope.names [])) fp
  have api := fun x hx => hpi x hx s3 (upd H2 D (o0 D)) s3.heap.objs.size (cellsFrom (s3.heap.objs.size + 1) scope.names (cloFrom X.env.cells scope.names [])) fp
  have aem := hem D s3 (upd H2 D (o0 D)) s3.heap.objs.size (cellsFrom (s3.heap.objs.size + 1) scope.names (cloFrom X.env.cells scope.names [])) fp
  have nfp : ∀ b ∈ fp, (upd H2 D (o0 D)) b = none := fun b hb => (f3 b hb).1.1
  have cL : (compEnvC scope (cellsFrom (s3.heap.objs.size + 1) scope.names (cloFrom X.env.cells scope.names [])) s3.heap.objs.size X.env).locals = s3.heap.objs.size := rfl
  have h3z : ({ s2 with heap := s2.heap.push ob } : Shared).heap.objs.size = s3.heap.objs.size := by rw [hs3]
  have goal : codeAny (model X.prog X.w) X.A (.compStart e 0 (.ref it) (.ref D) (compEnvC scope (cellsFrom (s3.heap.objs.size + 1) scope.names (cloFrom X.env.cells scope.names [])) s3.heap.objs.size X.env)) (compPost (model X.prog X.w) X.A X.xe use Qf (.ref D) s3.heap.objs.size)
      { s3 with heap := pushCells (s3.heap.push { cls := .type "dict", data := .dict #[] }) scope.names } := by
    generalize compEnvC scope (cellsFrom (s3.heap.objs.size + 1) scope.names (cloFrom X.env.cells scope.names [])) s3.heap.objs.size X.env = ce at I4 aok api aem cL ⊢
    have st4 : tn 0 (pushCells (s3.heap.push { cls := .type "dict", data := .dict #[] }) scope.names) := T.keep _ _ _ st2 fun b _ o z => pushCells_keeps _ _ _ _ (Heap.get?_push_of_some _ (by rw [h3]; exact Heap.get?_push_of_some _ z))
    generalize hs4 : ({ s3 with heap := pushCells (s3.heap.push { cls := .type "dict", data := .dict #[] }) scope.names } : Shared) = s4 at I4 ⊢
    have st5 : tn 0 s4.heap := by rw [← hs4]; exact st4
    rw [← hvs] at I4
    have stat : ∀ b ∈ fp, ∀ H', H' b = none → FpOk (X.blk s3 (upd H2 D (o0 D)) scope ce fp) [] H' b := fun b hb H' hn => ⟨hn, (I4.ok.exf b hb).1, I4.ok.exfs b hb, .inl hb, fun x a z => (I4.ok.exf b hb).2 x a z, fun p hp => absurd (show p ∈ ([] : List (Addr × Obj)) ++ [] from hp) (by simp)⟩
    have loop := loop_ok (B := X.blk s3 (upd H2 D (o0 D)) scope ce fp) (acc := .ref D) hc rfl K aem cs c 0 rfl nst aok api [] s4 σ _ it fp tn J _ (compPost (model X.prog X.w) X.A X.xe use Qf (.ref D) s3.heap.objs.size) T I4 st5 stat nfp lp fun s6 H5 I6 qq => by
      have I7 : Inv X pins σ H5 s6 := I3.call' (ch := fp) I6.os I6.base I6.hok I6.bare fun b hb => ⟨(f3 b hb).1.2.2.2.1, (f3 b hb).1.2.1, (f3 b hb).1.2.2.2.2.1, (f3 b hb).1.2.2.2.2.2⟩
      have nC : H5 ce.locals = none := I6.free
      rw [cL] at nC
      obtain ⟨m, hn, _⟩ := I6.loc
      have hn : s6.heap.Ns ce.locals m := hn
      rw [cL] at hn
      exact hRR D s3.heap.objs.size s6 m H5 I7 qq hn (I3.fpOk (Nat.le_refl _) nC)
    exact start_any K rfl loop (T.self X.A 0 _ _ _ st5 loop)
  subst hs3 hD
  exact goal
theorem new_list {P : Program} {w : World} : NewOk P w (newList []) fun _ => .lst [] := fun A E s Q h =>
  wpAny_newObj_type (h _ fun H' _ => ⟨Nat.zero_le _, [], 0, .nil, Heap.get?_push_size _ rfl⟩) (by show 0 ≤ sizeLine; decide)
theorem new_dT {P : Program} {w : World} : NewOk P w newDict fun _ => .dT [] := fun A E s Q h => wpAny_newObj_type (h _ fun H' hb => dt_empty s.heap hb)
theorem new_dK {P : Program} {w : World} : NewOk P w newDict fun _ => .dK [] := fun A E s Q h => wpAny_newObj_type (h _ fun H' hb => dk_empty s.heap hb)
/-- the end of a comprehension as a value -/
theorem back {pins : List (Addr × Obj)} {σ : L2.St} {Q : VK} (D C : Addr) (s' : Shared) (m : _) (H' : Hp) (I' : Inv X pins σ H' s') (q : Q (.ref D) H') (hn : s'.heap.Ns C m) (f : FpOk X pins H' C) :
    compPost (model X.prog X.w) X.A X.xe none (EP X pins σ Q) (.ref D) C (.ok .next) s' := by
  obtain ⟨f0, f1, f2, f3, f4, f5⟩ := f
  exact ⟨m, hn, fun h'' sb => ⟨.ref D, H', I'.turned (t' := s'.toks) (fun b o hb e => (sb.2 b hb).trans e) f0 f1 f3 f4 f5, rfl, q⟩⟩
/-- an item goes to the new list -/
def emL (te : TE) (D : Addr) : L2.St → Hp → (Hp → Prop) → Prop := fun σ H Nx => te σ H fun y H1 => ∃ acc, H1 D = some (.lst acc) ∧ acc.length < sizeLine ∧ Nx (upd H1 D (.lst (acc ++ [y])))
/-- an entry goes to the new dict with tuple keys -/
def emT (tk tv : TE) (D : Addr) : L2.St → Hp → (Hp → Prop) → Prop := fun σ H Nx => tk σ H fun y H1 => tv σ H1 fun z H2 => ∃ kvs k b, y = .ref b ∧ H2 b = some (.tup (k.map kV)) ∧ H2 D = some (.dT kvs) ∧ kvs.length < sizeLine ∧ Nx (upd H2 D (.dT (putK kvs k z)))
/-- one whose keys are ints and texts -/
def emK (tk tv : TE) (D : Addr) : L2.St → Hp → (Hp → Prop) → Prop := fun σ H Nx => tk σ H fun y H1 => tv σ H1 fun z H2 => ∃ kvs k, y = kV k ∧ H2 D = some (.dK kvs) ∧ kvs.length < sizeLine ∧ Nx (upd H2 D (.dK (putK kvs k z)))
theorem d_setT {pins : List (Addr × Obj)} {σ : L2.St} {H : Hp} {s : Shared} {E : Value → Shared → Prop} {D b : Addr} {kvs : List (List Key × V)} {k : List Key} {v : V} {r : Value} {Q : Unit → Shared → Prop} (hu : X.A.units < cLine) (I : Inv X pins σ H s) (hD : H D = some (.dT kvs)) (hb : H b = some (.tup (k.map kV)))
    (hz : kvs.length < sizeLine) (rv : RelV v r) (h : ∀ s', Inv X pins σ (upd H D (.dT (putK kvs k v))) s' → Q () s') : wpAny (model X.prog X.w) X.A (dictSet D (.ref b) r) Q E s := by
  obtain ⟨z, hd, xs, rel, dd⟩ := dt_of I.hok hD
  have hzx : xs.length ≤ sizeLine := by rw [← Paired.length rel]; exact z
  have hl : (putK kvs k v).length ≤ sizeLine := Nat.le_trans (length_putK kvs k v) hz
  refine wpAny_dictSet_heap (hsz := hzx) (knd := tupleKind (mixKind X.prog X.w)) hu (key_of I.hok hb) dd fun h' dd' sb => h _ ?_
  obtain ⟨o, es, ep, ho, e1, e2, e3, _, e4⟩ := dd'
  exact d_write I (by rw [hD]; exact True.intro) sb ⟨o, ho⟩ ⟨hl, hd, _, (rel.put k hb rv).keeps fun a ys q => (by rw [upd_ne (ne_of q hD (fun z => nomatch z))]; exact q), o, es, ep, ho, e1, e2, e3, e4⟩
theorem emL_ok {B : Cx} {D : Addr} {elt : Expr} {gens : List Comprehension} {scope : Scope} {pos : Pos} {te : TE} (b1 : B.xe = NoE) (he : PE B elt te) : EmOk B (.ref D) (.ListComp elt gens scope pos) (emL te D) := by
  intro pins s σ H Nx I q
  have r := he.run pins s σ H _ I q
  rw [b1] at r
  refine thnF r fun x s1 h => ?_
  obtain ⟨y, H1, I1, r1, acc, hD, hz, nx⟩ := h
  exact app_ok I1 hD hz r1 fun s2 I2 => ⟨_, I2, nx⟩
theorem emT_ok {B : Cx} {D : Addr} {k v : Expr} {gens : List Comprehension} {scope : Scope} {pos : Pos} {tk tv : TE} (b1 : B.xe = NoE) (hu : B.A.units < cLine) (hk : PE B k tk) (hv : PE B v tv) : EmOk B (.ref D) (.DictComp k v gens scope pos) (emT tk tv D) := by
  intro pins s σ H Nx I q
  have r := hk.run pins s σ H _ I q
  rw [b1] at r
  refine ⟨D, rfl, thnF r fun x s1 h => ?_⟩
  obtain ⟨y, H1, I1, r1, q1⟩ := h
  have r := hv.run pins s1 σ H1 _ I1 q1
  rw [b1] at r
  refine thnF r fun x2 s2 h => ?_
  obtain ⟨z, H2, I2, r2, kvs, kk, b, rfl, hb, hD, hz, nx⟩ := h
  cases r1
  exact d_setT hu I2 hD hb hz r2 fun s3 I3 => ⟨_, I3, nx⟩
theorem emK_ok {B : Cx} {D : Addr} {k v : Expr} {gens : List Comprehension} {scope : Scope} {pos : Pos} {tk tv : TE} (b1 : B.xe = NoE) (hk : PE B k tk) (hv : PE B v tv) : EmOk B (.ref D) (.DictComp k v gens scope pos) (emK tk tv D) := by
  intro pins s σ H Nx I q
  have r := hk.run pins s σ H _ I q
  rw [b1] at r
  refine ⟨D, rfl, thnF r fun x s1 h => ?_⟩
  obtain ⟨y, H1, I1, r1, q1⟩ := h
  have r := hv.run pins s1 σ H1 _ I1 q1
  rw [b1] at r
  refine thnF r fun x2 s2 h => ?_
  obtain ⟨z, H2, I2, r2, kvs, kk, rfl, hD, hz, nx⟩ := h
  exact d_dictSet I2 hD hz r1 r2 fun s3 I3 => ⟨_, I3, nx⟩
end
end GC
set_option Elab.async false
set_option linter.all false
set_option maxRecDepth 100000
namespace GC
open PySem PySem.Spec PyProof.Rows L2
section
variable {X : Cx}
/-- the clauses behind the first -/
structure Cls (X : Cx) (scope : Scope) (gens : List Comprehension) (cs : List Cl) : Prop where
  eq : gens = cs.map Cl.c
  ok : ∀ x ∈ cs, Blk X scope fun B => ClOk B x
  pi : ∀ x ∈ cs, Blk X scope fun B => PI B x.tg x.iter x.wi
theorem cl0 {scope : Scope} : Cls X scope [] [] := ⟨rfl, fun _ h => (by cases h), fun _ h => by cases h⟩
theorem cl1 {scope : Scope} {tg iter : Expr} {ifs : List Expr} {gens : List Comprehension} {cs : List Cl} {wi : TI} {g : TG} {tt : TT} (vs : List Nat) (hi : Blk X scope fun B => PI B tg iter wi) (hg : Blk X scope fun B => PG B tg g) (ht : Blk X scope fun B => PTs B ifs tt) (r : Cls X scope gens cs)
    (hs : ∀ env x, foldedSetIterable iter env x = pure x := by intro _ _; rfl) : Cls X scope (⟨tg, iter, ifs, 0⟩ :: gens) (⟨tg, iter, ifs, wi, g, tt, vs⟩ :: cs) where
  eq := by rw [r.eq]; rfl
  ok := fun x hx => by
    rcases List.mem_cons.mp hx with rfl | hx
    · exact fun s H C cl fp => ⟨hg s H C cl fp, ht s H C cl fp, hs _⟩
    · exact r.ok x hx
  pi := fun x hx => by
    rcases List.mem_cons.mp hx with rfl | hx
    · exact hi
    · exact r.pi x hx
theorem pe_co {e tg iter : Expr} {ifs : List Expr} {gens : List Comprehension} {scope : Scope} {own : List (Str × Nat)} {pos : Pos} {new : Sem Value} {o0 : Addr → HO} {wi : TI} {g : TG} {tt : TT} {cs : List Cl} {em : Addr → L2.St → Hp → (Hp → Prop) → Prop} (hev : eval e X.env = comprehension e scope X.env pos new false (eval iter X.env) none)
    (K : Kd e (⟨tg, iter, ifs, 0⟩ :: gens)) (hnew : NewOk X.prog X.w new o0) (hc : X.calm = true) (hN : X.N.Nodup) (hi : PI X tg iter wi) (ok : BlkOk X.N X.env.scope scope own) (hg : Blk X scope fun B => PG B tg g) (ht : Blk X scope fun B => PTs B ifs tt) (r : Cls X scope gens cs)
    (nst : Nested (⟨tg, iter, ifs, wi, g, tt, own.map (·.2)⟩ :: cs)) (hem : ∀ D, Blk X scope fun B => EmOk B (.ref D) e (em D)) (hs : ∀ env x, foldedSetIterable iter env x = pure x) :
    PE X e (tCo o0 ⟨tg, iter, ifs, wi, g, tt, own.map (·.2)⟩ cs em) := by
  refine ⟨fun pins s σ H Q I h => ?_⟩
  rw [hev]
  have K' : Kd e ((⟨tg, iter, ifs, wi, g, tt, own.map (·.2)⟩ :: cs : List Cl).map Cl.c) := by
    have q := r.eq
    subst q
    exact K
  refine core K' hnew hc hN I hi ok rfl (hs _) nst (fun x hx => ?_) r.pi hem h fun D C s' m H' I' q hn f => back D C s' m H' I' q hn f
  rcases List.mem_cons.mp hx with rfl | hx
  · exact fun s H C cl fp => ⟨hg s H C cl fp, ht s H C cl fp, hs _⟩
  · exact r.ok x hx
/-- a list comprehension of any number of clauses -/
theorem pe_lcs {elt tg iter : Expr} {ifs : List Expr} {gens : List Comprehension} {scope : Scope} {own : List (Str × Nat)} {pos : Pos} {wi : TI} {g : TG} {tt : TT} {te : TE} {cs : List Cl} (hc : X.calm = true) (hN : X.N.Nodup) (hi : PI X tg iter wi) (ok : BlkOk X.N X.env.scope scope own)
    (hg : Blk X scope fun B => PG B tg g) (ht : Blk X scope fun B => PTs B ifs tt) (r : Cls X scope gens cs) (nst : Nested (⟨tg, iter, ifs, wi, g, tt, own.map (·.2)⟩ :: cs)) (he : Blk X scope fun B => PE B elt te) (hs : ∀ env x, foldedSetIterable iter env x = pure x := by intro _ _; rfl) :
    PE X (.ListComp elt (⟨tg, iter, ifs, 0⟩ :: gens) scope pos) (tCo (fun _ => .lst []) ⟨tg, iter, ifs, wi, g, tt, own.map (·.2)⟩ cs (emL te)) :=
  pe_co rfl (.l ..) new_list hc hN hi ok hg ht r nst (fun D s H C cl fp => emL_ok rfl (he s H C cl fp)) hs
/-- a dict comprehension, the keys tuples -/
theorem pe_dcT {k v tg iter : Expr} {ifs : List Expr} {gens : List Comprehension} {scope : Scope} {own : List (Str × Nat)} {pos : Pos} {wi : TI} {g : TG} {tt : TT} {tk tv : TE} {cs : List Cl} (hu : X.A.units < cLine) (hc : X.calm = true) (hN : X.N.Nodup) (hi : PI X tg iter wi) (ok : BlkOk X.N X.env.scope scope own)
    (hg : Blk X scope fun B => PG B tg g) (ht : Blk X scope fun B => PTs B ifs tt) (r : Cls X scope gens cs) (nst : Nested (⟨tg, iter, ifs, wi, g, tt, own.map (·.2)⟩ :: cs)) (hk : Blk X scope fun B => PE B k tk) (hv : Blk X scope fun B => PE B v tv) (hs : ∀ env x, foldedSetIterable iter env x = pure x := by intro _ _; rfl) :
    PE X (.DictComp k v (⟨tg, iter, ifs, 0⟩ :: gens) scope pos) (tCo (fun _ => .dT []) ⟨tg, iter, ifs, wi, g, tt, own.map (·.2)⟩ cs (emT tk tv)) :=
  pe_co rfl (.d ..) new_dT hc hN hi ok hg ht r nst (fun D s H C cl fp => emT_ok rfl hu (hk s H C cl fp) (hv s H C cl fp)) hs
/-- the keys ints and texts -/
theorem pe_dcK {k v tg iter : Expr} {ifs : List Expr} {gens : List Comprehension} {scope : Scope} {own : List (Str × Nat)} {pos : Pos} {wi : TI} {g : TG} {tt : TT} {tk tv : TE} {cs : List Cl} (hc : X.calm = true) (hN : X.N.Nodup) (hi : PI X tg iter wi) (ok : BlkOk X.N X.env.scope scope own)
    (hg : Blk X scope fun B => PG B tg g) (ht : Blk X scope fun B => PTs B ifs tt) (r : Cls X scope gens cs) (nst : Nested (⟨tg, iter, ifs, wi, g, tt, own.map (·.2)⟩ :: cs)) (hk : Blk X scope fun B => PE B k tk) (hv : Blk X scope fun B => PE B v tv) (hs : ∀ env x, foldedSetIterable iter env x = pure x := by intro _ _; rfl) :
    PE X (.DictComp k v (⟨tg, iter, ifs, 0⟩ :: gens) scope pos) (tCo (fun _ => .dK []) ⟨tg, iter, ifs, wi, g, tt, own.map (·.2)⟩ cs (emK tk tv)) :=
  pe_co rfl (.d ..) new_dK hc hN hi ok hg ht r nst (fun D s H C cl fp => emK_ok rfl (hk s H C cl fp) (hv s H C cl fp)) hs
/-- a clause's loop over a walk -/
theorem lp_it {J : It} {n : Nat} {G : Hp → Prop} {Y : Nat → Hp → V → Hp → Prop} (w : Walk J n G Y) {g : TG} {tt : TT} {vs : List Nat} {D : L2.St → Hp → (Hp → Prop) → Prop} {σ : L2.St} {H : Hp} {End : Hp → Prop} (Pv : Nat → Hp → Prop) (h0 : Pv 0 H) (hG : ∀ i H, i ≤ n → Pv i H → G H)
    (hs : ∀ i x H H', i < n → Pv i H → Y i H x H' → g x (wipe σ vs) H' fun σ2 H2 => wipe σ2 vs = wipe σ vs ∧ tt σ2 H2 fun b H3 => if b = true then D σ2 H3 (Pv (i + 1)) else Pv (i + 1) H3) (hd : ∀ H, Pv n H → End H) : Lp J g tt vs D σ H End := by
  refine ⟨fun i m H => m = n - i ∧ i ≤ n ∧ Pv i H, ⟨n, by simp, Nat.zero_le _, h0⟩, ?_⟩
  rintro i m H ⟨rfl, hi, p⟩
  have q := hG i H hi p
  rcases Nat.lt_or_ge i n with hlt | hge
  · exact .inr ⟨w.goes i H hlt q, Pv (i + 1), fun H' p' => ⟨n - (i + 1), by omega, rfl, hlt, p'⟩, fun x H' y => hs i x H H' hlt p (w.yields i H x H' hlt q y)⟩
  · obtain rfl : i = n := by omega
    exact .inl ⟨w.stops H q, hd H p⟩
end
end GC
set_option Elab.async false
set_option linter.all false
set_option maxRecDepth 100000
set_option maxHeartbeats 2000000
namespace DTp
open PySem PySem.Spec PySem.W PyProof.Rows L2
def mergeT (kvs more : List (List Key × V)) : List (List Key × V) := more.foldl (fun acc kv => putK acc kv.1 kv.2) kvs
theorem length_mergeT : ∀ (more kvs : List (List Key × V)), (mergeT kvs more).length ≤ kvs.length + more.length
  | [], kvs => Nat.le_refl _
  | p :: r, kvs => by
    have a := length_mergeT r (putK kvs p.1 p.2); have b := length_putK kvs p.1 p.2
    show (mergeT (putK kvs p.1 p.2) r).length ≤ _
    rw [List.length_cons]; omega
theorem KT.merge {H : Hp} : ∀ {more : List (List Key × V)} {rs : List (List Key × Addr × Value)} {kvs : List (List Key × V)} {xs : List (List Key × Addr × Value)}, KT H more rs → KT H kvs xs → KT H (mergeT kvs more) (storedAllH xs rs)
  | _, _, _, _, .nil, h => h
  | _, _, _, _, .cons (a := p) (b := q) r t, h => by
    show KT H (mergeT (putK _ p.1 p.2) _) (storedAllH (storedH _ q.1 q.2.1 q.2.2) _)
    refine KT.merge t ?_
    rw [← r.1]
    exact h.put p.1 r.2.1 r.2.2
section
variable {X : Cx}
/-- what the pairs of a list are -/
def PrT (K : PySem.W.Frag) (H : Hp) : List Addr → List (List Key × V) → Prop := Paired fun p kv => ∃ b, SqT K H p [.ref b, kv.2] ∧ H b = some (.tup (kv.1.map kV))
theorem prs_of {pins : List (Addr × Obj)} {σ : L2.St} {H : Hp} {s : Shared} (I : Inv X pins σ H s) : ∀ {ps : List Addr} {kvs : List (List Key × V)}, PrT X.K H ps kvs → ∃ xs : List (List Key × Addr × Value), KT H kvs xs ∧ Paired (fun p (x : List Key × Addr × Value) => s.heap.IsTuple p #[.ref x.2.1, x.2.2]) ps xs
  | _, _, .nil => ⟨[], .nil, .nil⟩
  | _, _, .cons (a := p) (b := kv) r t => by
    obtain ⟨b, hp, hb⟩ := r
    obtain ⟨xs, h1, h2⟩ := prs_of I t
    obtain ⟨its, rv, ht, _⟩ := I.tuple hp
    obtain ⟨u, y, rfl, ru, ry⟩ := vals2 rv
    cases (show u = Value.ref b from ru)
    exact ⟨(kv.1, b, y) :: xs, .cons ⟨rfl, hb, ry⟩ h1, .cons ht h2⟩
theorem kt_is {pins : List (Addr × Obj)} {σ : L2.St} {H : Hp} {s : Shared} (I : Inv X pins σ H s) : ∀ {kvs : List (List Key × V)} {xs : List (List Key × Addr × Value)}, KT H kvs xs → ∀ x ∈ xs, H x.2.1 = some (.tup (x.1.map kV)) ∧ (tupleKind (mixKind X.prog X.w)).is s.heap x.1 x.2.1
  | _, _, .cons r t, x, hx => by
    rcases List.mem_cons.mp hx with rfl | hx
    · have e : H x.2.1 = some (.tup (x.1.map kV)) := by rw [← r.1]; exact r.2.1
      exact ⟨e, key_of I.hok e⟩
    · exact kt_is I t x hx
theorem paired_at {α β : Type} {F : α → β → Prop} : ∀ {xs : List α} {ys : List β}, Paired F xs ys → ∀ {i : Nat} {y : β}, ys[i]? = some y → ∃ x, xs[i]? = some x ∧ F x y
  | _, _, .nil, i, y, h => by cases h
  | _, _, .cons r t, 0, y, h => ⟨_, rfl, by cases h; exact r⟩
  | _, _, .cons r t, i + 1, y, h => paired_at t (i := i) h
theorem is_keeps {P : Program} {w : World} {h h' : Heap} {k : List Key} {b : Addr} (x : (tupleKind (mixKind P w)).is h k b) (e : ∀ o, h.get? b = some o → h'.get? b = some o) : (tupleKind (mixKind P w)).is h' k b := let ⟨o, its, n, ho, r⟩ := x; ⟨o, its, n, e _ ho, r⟩
/-- dict(xs), a list of pairs (tuple, value) -/
def rDictT (K : PySem.W.Frag) : List V → Hp → VK → Prop := fun vs H Q => ∃ (a : Addr) (ps : List Addr) (kvs : List (List Key × V)), vs = [.ref a] ∧ SqL K H a (ps.map V.ref) ∧ PrT K H ps kvs ∧ ∀ p, H p = none → Q (.ref p) (upd H p (.dT (mergeT [] kvs)))
theorem cr_dictT (hc : X.calm = true) (hu : X.A.units + 2 < cLine) : CallR X (.type "dict") (rDictT X.K) := by
  intro pins s σ H vs us Q I r h
  obtain ⟨a, ps, kvs, rfl, hq, hp, q⟩ := h
  rw [Vals.ref1 r]
  obtain ⟨its, rv, pl, hz⟩ := I.list hq
  have ei := refs_at rv
  subst ei
  rw [List.length_map] at hz
  obtain ⟨xs, kt, tp⟩ := prs_of I hp
  have l1 : kvs.length = xs.length := Paired.length kt
  have l2 : ps.length = xs.length := Paired.length tp
  let prs : List (Value × Value) := xs.map fun x => (Value.ref x.2.1, x.2.2)
  have lp : prs.length = xs.length := List.length_map _
  obtain ⟨o, n, ho, hcl, hd, hdat⟩ := pl
  have PA := PairArg.list (prog := X.prog) (w := X.w) a (ps.map Value.ref).toArray (fun j => ps.getD j 0) prs
  have at_ : ∀ j k v, prs[j]? = some (k, v) → ∃ (x : List Key × Addr × Value) (p : Addr), xs[j]? = some x ∧ ps[j]? = some p ∧ k = Value.ref x.2.1 ∧ v = x.2.2 ∧ s.heap.IsTuple p #[Value.ref x.2.1, x.2.2] := fun j k v e => by
    rw [List.getElem?_map] at e
    cases ex : xs[j]? with
    | none => rw [ex] at e; cases e
    | some x =>
      rw [ex] at e
      have e : (Value.ref x.2.1, x.2.2) = (k, v) := Option.some.inj e
      obtain ⟨p, hp1, hp2⟩ := paired_at tp ex
      exact ⟨x, p, ex, hp1, (congrArg Prod.fst e).symm, (congrArg Prod.snd e).symm, hp2⟩
  have ok : PlainSeq "list" s.heap a (ps.map Value.ref).toArray ∧ PairItems s.heap (ps.map Value.ref).toArray (fun j => ps.getD j 0) prs := by
    refine ⟨⟨o, n, ho, hcl, hd, hdat⟩, by rw [List.size_toArray, List.length_map, lp]; exact l2, fun j k v e => ?_⟩
    obtain ⟨x, p, e1, e2, rfl, rfl, e5⟩ := at_ j k v e
    have eg : ps.getD j 0 = p := by rw [List.getD_eq_getElem?_getD, e2]; rfl
    refine ⟨?_, ?_⟩
    · show (ps.map Value.ref).toArray[j]? = some (.ref (ps.getD j 0))
      rw [eg, List.getElem?_toArray, List.getElem?_map, e2]; rfl
    · show PairAt s.heap (ps.getD j 0) _ _
      rw [eg]; exact .inl e5
  refine call_dict_pairsH (knd := tupleKind (mixKind X.prog X.w)) (ps := xs) PA (I.ok.hd hc) hu ok ⟨lp.symm, fun i key v e => ?_⟩ (fun h' hk x hx => ?_) (by rw [lp, ← l2]; exact hz) fun h' tk hd' hk => ?_
  · obtain ⟨x, p, e1, e2, rfl, rfl, e5⟩ := at_ i key v e
    exact ⟨x.1, x.2.1, by rw [e1], rfl⟩
  · have k := (kt_is I kt x hx).2
    exact is_keeps k fun o e => hk _ _ (Nat.ne_of_lt (Heap.lt_size e)) (by simp) e
  · have hm : (s.heap.objs.size == sysModules) = false := beq_eq_false_iff_ne.mpr (Nat.ne_of_gt I.big)
    have hn : H s.heap.objs.size = none := I.hok.fresh (Nat.le_refl _)
    have hlen : (mergeT [] kvs).length ≤ sizeLine := by
      have e := length_mergeT kvs []
      rw [List.length_nil] at e
      omega
    obtain ⟨o', es, ep, h1, h2, h3, h4, _, h5⟩ := hd'
    refine ⟨.ref s.heap.objs.size, upd H s.heap.objs.size (.dT (mergeT [] kvs)), I.laid (t' := tk) (fun b o e => hk b o (by simp) e) (Nat.le_refl _) ⟨hlen, hm, storedAllH [] xs, (KT.merge kt .nil).keeps fun b ys e => ?_, o', es, ep, h1, h2, h3, h4, h5⟩, rfl, q _ hn⟩
    rw [upd_ne (ne_of_none e hn)]
    exact e
abbrev ltT (x y : Str) : Prop := x.cps.toList < y.cps.toList
theorem dataLt_ss (x y x' y' : Str) : dataLt (.tuple [.str x, .str y]) (.tuple [.str x', .str y']) = decide (ltT x x' ∨ (x = x' ∧ ltT y y')) := by
  rw [dataLt_pair (by simp [alike]) (by simp [alike]), dataLt_str, dataLt_str]
  simp only [PyData.eqv, beq_iff_eq]
  have irr : ∀ l : List Nat, ¬ l < l := fun l => List.lt_irrefl l
  by_cases h1 : x = x' <;> by_cases h2 : y = y' <;> simp [h1, h2, irr]
def encS (p : Addr × Str × Str) : PyData := .tuple [.str p.2.1, .str p.2.2]
/-- the order of pairs of texts -/
def leP (p q : Str × Str) : Prop := ¬ (ltT q.1 p.1 ∨ (q.1 = p.1 ∧ ltT q.2 p.2))
theorem leB (p q : Addr × Str × Str) : dataLe false encS p q = true ↔ leP p.2 q.2 := by
  rw [dataLe_eq]
  show (!dataLt (encS q) (encS p)) = true ↔ _
  unfold encS leP
  rw [dataLt_ss, Bool.not_eq_true', decide_eq_false_iff_not]
theorem str_ext {x y : Str} (h : x.cps.toList = y.cps.toList) : x = y := by
  cases x; cases y
  simp only at h
  congr
  exact Array.ext' h
theorem ltT_trans {x y z : Str} (a : ltT x y) (b : ltT y z) : ltT x z := List.lt_trans a b
theorem ltT_tri (x y : Str) : ltT x y ∨ x = y ∨ ltT y x := by
  rcases Classical.em (ltT x y) with h | h
  · exact .inl h
  rcases Classical.em (ltT y x) with k | k
  · exact .inr (.inr k)
  · exact .inr (.inl (str_ext (List.le_antisymm (List.not_lt.mp k) (List.not_lt.mp h))))
theorem ltT_irr (x : Str) : ¬ ltT x x := List.lt_irrefl _
theorem leP_trans {p q r : Str × Str} (a : leP p q) (b : leP q r) : leP p r := by
  unfold leP at *
  rintro (h | ⟨h, k⟩)
  · rcases ltT_tri p.1 q.1 with c | c | c
    · exact b (.inl (ltT_trans h c))
    · exact b (.inl (c ▸ h))
    · exact a (.inl c)
  · rcases ltT_tri p.1 q.1 with c | c | c
    · exact b (.inl (h ▸ c))
    · rcases ltT_tri p.2 q.2 with d | d | d
      · exact b (.inr ⟨h.trans c, ltT_trans k d⟩)
      · exact b (.inr ⟨h.trans c, d ▸ k⟩)
      · exact a (.inr ⟨c.symm, d⟩)
    · exact a (.inl c)
theorem leP_total (p q : Str × Str) : leP p q ∨ leP q p := by
  rcases Classical.em (leP p q) with h | h
  · exact .inl h
  · right
    unfold leP at *
    rintro (k | ⟨k, l⟩)
    · refine h ?_
      rintro (m | ⟨m, _⟩)
      · exact ltT_irr _ (ltT_trans k m)
      · rw [m] at k; exact ltT_irr _ k
    · refine h ?_
      rintro (m | ⟨m, n⟩)
      · rw [k] at m; exact ltT_irr _ m
      · exact ltT_irr _ (ltT_trans l n)
def keyP (p : Str × Str) : List Key := [.inr p.1, .inr p.2]
def rSortT : List V → Hp → VK → Prop := fun vs H Q => ∃ (a : Addr) (kvs : List (List Key × V)) (ps : List (Str × Str)), vs = [.ref a] ∧ Rd H a (.dT kvs) ∧ kvs.map (·.1) = ps.map keyP ∧ ps.length ≤ 1000 ∧
  ∀ (qs : List (Addr × Str × Str)) (p : Addr), (qs.map (·.2)).Perm ps → (qs.map (·.2)).Pairwise leP → (∀ q ∈ qs, H q.1 = some (.tup [.str q.2.1, .str q.2.2])) → H p = none → Q (.ref p) (upd H p (.lst (qs.map fun q => V.ref q.1)))
theorem each_of {α β : Type} {R : α → β → Prop} (f : β → α) (h : ∀ b, R (f b) b → R (f b) b) : ∀ (bs : List β), (∀ b ∈ bs, R (f b) b) → EachIs R (bs.map f) bs
  | [], _ => .nil
  | b :: bs, k => .cons (k b List.mem_cons_self) (each_of f h bs fun c hc => k c (List.mem_cons_of_mem _ hc))
theorem each_eq {β : Type} (f : β → Value) : ∀ {as : List Value} {bs : List β}, EachIs (fun v b => v = f b) as bs → as = bs.map f
  | _, _, .nil => rfl
  | _, _, .cons h t => by rw [List.map_cons, ← each_eq f t, h]
theorem vals_qs : ∀ qs : List (Addr × Str × Str), Vals (qs.map fun q => V.ref q.1) (qs.map fun b => Value.ref b.1)
  | [] => .nil
  | q :: qs => .cons (show RelV (V.ref q.1) (Value.ref q.1) from rfl) (vals_qs qs)
theorem cr_sortT (hc : X.calm = true) (hu : X.A.units + 64 < cLine) : CallR X (.builtin "sorted") rSortT := by
  intro pins s σ H vs us Q I r h
  obtain ⟨a, kvs, ps, rfl, ha, hks, few, q⟩ := h
  rw [Vals.ref1 r]
  obtain ⟨z, lo, xs, rel, dd⟩ := dt_rd I.hok ha
  obtain ⟨o, es, ep, ho, hex, hdat, hes, his, hnd⟩ := id dd
  have l1 : kvs.length = xs.length := Paired.length rel
  have l2 : kvs.length = ps.length := by
    have e := congrArg List.length hks
    rwa [List.length_map, List.length_map] at e
  have le : es.size = xs.length := size_of_entries hes
  -- the keys with their places
  let bs : List (Addr × Str × Str) := (xs.map fun x => x.2.1).zip ps
  have lb : bs.length = ps.length := by show (List.zip _ _).length = _; rw [List.length_zip, List.length_map]; omega
  have bat : ∀ (i : Nat) (b : Addr × Str × Str), bs[i]? = some b → ∃ x, xs[i]? = some x ∧ x.2.1 = b.1 ∧ ps[i]? = some b.2 ∧ H b.1 = some (.tup [.str b.2.1, .str b.2.2]) := fun i b e => by
    obtain ⟨e1, e2⟩ := List.getElem?_zip_eq_some.mp e
    rw [List.getElem?_map] at e1
    cases ex : xs[i]? with
    | none => rw [ex] at e1; cases e1
    | some x =>
      rw [ex] at e1
      have e1 : x.2.1 = b.1 := Option.some.inj e1
      obtain ⟨kv, hk, r1, r2, r3⟩ := paired_at rel ex
      have ek : (kvs.map (·.1))[i]? = some kv.1 := by rw [List.getElem?_map, hk]; rfl
      rw [hks, List.getElem?_map, e2] at ek
      have ek : keyP b.2 = kv.1 := Option.some.inj ek
      refine ⟨x, rfl, e1, e2, ?_⟩
      rw [← ek, e1] at r2
      exact r2
  have bmem : ∀ b ∈ bs, H b.1 = some (.tup [.str b.2.1, .str b.2.2]) := fun b hb => by
    obtain ⟨i, hi⟩ := List.mem_iff_getElem?.mp hb
    obtain ⟨_, _, _, _, h⟩ := bat i b hi
    exact h
  refine Calls.call_function_entry PyProof.Rows.kind_sorted PyProof.Rows.plain_sorted PyProof.Rows.entry_sorted (PyProof.Rows.args_sorted1 _) ?_
  unfold Builtin.«sorted»
  refine wpAny_bind (m := checkCount "sorted" 1 1 _) (wpAny_pure (wpAny_bind (kdu_collect (A := X.A.in1) (KdlSrc.rawDict (es := es) (ep := ep) lo) (I.ok.hd hc) ⟨o, ho, hex, hdat⟩ (by rw [le, ← l1]; exact z) fun h' tk acc hk hacc => ?_)))
  have eacc : acc.toList = bs.map fun b => Value.ref b.1 := by
    apply List.ext_getElem?
    intro i
    rw [Array.getElem?_toList, List.getElem?_map]
    cases e : acc[i]? with
    | none =>
      have h1 : acc.size ≤ i := Array.getElem?_eq_none_iff.mp e
      rw [List.getElem?_eq_none (by rw [lb, ← l2, l1, ← le, ← hacc.1]; exact h1)]
      rfl
    | some v =>
      obtain ⟨hi, hv⟩ := hacc.2 i v e
      have hib : i < bs.length := by rw [lb, ← l2, l1, ← le]; exact hi
      rw [List.getElem?_eq_getElem hib]
      obtain ⟨x, hx, e1, _, _⟩ := bat i bs[i] (List.getElem?_eq_getElem hib)
      have en := entry_at hes i
      rw [hx, Array.getElem?_eq_getElem hi] at en
      have en := Option.some.inj en
      rw [hv, en]
      show some (Value.ref x.2.1) = some (Value.ref bs[i].1)
      rw [e1]
  have I1 : Inv X pins σ H { s with heap := h', toks := tk } := I.kept (t' := tk) hk
  refine wpAny_bind (wpAny_newList ?_ (by rw [eacc, List.length_map, lb, sizeLine_eq]; omega))
  show wpAny _ _ _ _ _ { s with heap := h'.push (seqObj "list" acc.toList.toArray 0), toks := tk }
  have hoL : (h'.push (seqObj "list" acc.toList.toArray 0)).get? h'.objs.size = some (seqObj "list" acc.toList.toArray 0) := Heap.get?_push_size _ rfl
  have I2 : Inv X pins σ H { s with heap := h'.push (seqObj "list" acc.toList.toArray 0), toks := tk } := I1.kept (t' := tk) fun b u e => Heap.get?_push_of_some _ e
  have rd : ∀ b ∈ bs, ∃ as, Reads (h'.push (seqObj "list" acc.toList.toArray 0)) (.ref b.1) (encS b) as ∧ h'.objs.size ∉ as := fun b hb => by
    obtain ⟨its, rv, ⟨ot, hot, hct, nt, hdt⟩, _⟩ := I2.tuple (SqT.of (bmem b hb))
    obtain ⟨u, y, rfl, ⟨t1, rfl⟩, ⟨t2, rfl⟩⟩ := vals2 rv
    exact ⟨_, .tuple hot hct hdt (.cons (.str _ _) (.cons (.str _ _) .nil)), by simp⟩
  refine wpAny_bind (wpAny_holding (list_sort_data (s := { s with heap := h'.push (seqObj "list" acc.toList.toArray 0), toks := tk }) (R := fun v b => v = .ref b.1 ∧ b ∈ bs) (bs := bs) (enc := encS) hoL ?_ ?_ (.of fun b b' => by simp [encS, alike, alikeAll]) (.tuples fun b => ⟨_, _, rfl⟩) (by rw [lb, sizeLine_eq]; omega) (fun b hb => ?_) fun out ho' hs => ?_))
  · rw [eacc]; exact each_of _ (fun _ h => h) bs fun b hb => ⟨rfl, hb⟩
  · have rd' := each_of (R := fun v b => ∃ as, Reads (h'.push (seqObj "list" acc.toList.toArray 0)) v (encS b) as ∧ h'.objs.size ∉ as) (fun b : Addr × Str × Str => Value.ref b.1) (fun _ h => h) bs rd
    rw [← eacc] at rd'
    exact rd'
  · show X.A.in1.units + 1 + (encS b).depth < cLine
    have e : (encS b).depth ≤ 2 := by simp [encS, PyData.depth, PyData.depthAll]
    have e2 : X.A.in1.units = X.A.units + 1 := rfl
    omega
  · let qs := bs.mergeSort (dataLe false encS)
    have pq : qs.Perm bs := List.mergeSort_perm _ _
    have eo : out = qs.map fun b => Value.ref b.1 := each_eq _ (hs.mono fun v b h => h.1)
    have p2 : (qs.map (·.2)).Perm ps := by
      have e := pq.map (·.2)
      have m2 : bs.map (·.2) = ps := List.map_snd_zip (by rw [List.length_map]; omega)
      rw [m2] at e
      exact e
    have so : (qs.map (·.2)).Pairwise leP := by
      rw [List.pairwise_map]
      have w := List.pairwise_mergeSort (le := dataLe false encS) (fun a b c h k => (leB a c).mpr (leP_trans ((leB a b).mp h) ((leB b c).mp k))) (fun a b => by
        rcases leP_total a.2 b.2 with h | h
        · rw [(leB a b).mpr h]; rfl
        · rw [(leB b a).mpr h, Bool.or_true]) bs
      exact w.imp fun h => (leB _ _).mp h
    have hn : H h'.objs.size = none := I1.hok.fresh (Nat.le_refl _)
    obtain ⟨c, hcc⟩ := sortedHeap_at (vs := acc.toList) (out := out.toArray) hoL
    have lq : (qs.map fun q => V.ref q.1).length ≤ sizeLine := by rw [List.length_map, pq.length_eq, lb, sizeLine_eq]; omega
    refine wpAny_pure ⟨_, rfl, ?_⟩
    refine ⟨.ref h'.objs.size, upd H h'.objs.size (.lst (qs.map fun q => V.ref q.1)), I1.laid (o := .lst (qs.map fun q => V.ref q.1)) (t' := tk) (h' := sortedHeap (h'.push (seqObj "list" acc.toList.toArray 0)) h'.objs.size acc.toList out.toArray) (fun b u e => ?_) (Nat.le_refl _) ⟨lq, out, c, ?_, hcc⟩, rfl, q qs h'.objs.size p2 so (fun q' hq' => bmem q' (pq.mem_iff.mp hq')) hn⟩
    · have hlt := Heap.lt_size e
      rw [sortedHeap_old (Nat.ne_of_lt hlt) (by rw [Heap.size_push]; exact Nat.lt_succ_of_lt hlt)]
      exact Heap.get?_push_of_some _ e
    · rw [eo]
      exact vals_qs qs
end
end DTp
set_option Elab.async false
set_option linter.all false
set_option maxRecDepth 100000
set_option maxHeartbeats 2000000
namespace DTp
open PySem PySem.Spec PySem.W PyProof.Rows L2
abbrev cpL (xs : List Str) : List (List Nat) := xs.map fun x => x.cps.toList
/-- one row of texts ahead of another -/
abbrev ltR (xs ys : List Str) : Prop := cpL xs < cpL ys
theorem row_none (y : Str) (ys : List PyData) : rowLt [] (.str y :: ys) = true := by unfold rowLt; rw [toks_all_cons]; simp only [keyToksAll]; rw [lex_diff (O := itemOrd) (by simp)]; rfl
theorem row_some (x : Str) (xs : List PyData) : rowLt (.str x :: xs) [] = false := by unfold rowLt; rw [toks_all_cons]; simp only [keyToksAll]; rw [lex_diff (O := itemOrd) (by simp)]; rfl
theorem row_step (x y : Str) (xs ys : List PyData) : rowLt (.str x :: xs) (.str y :: ys) = if x = y then rowLt xs ys else decide (ltT x y) := by
  have h := dataLt_cons (x := .str x) (y := .str y) (by simp [alike]) xs ys
  rw [dataLt_str] at h
  simp only [PyData.eqv, beq_iff_eq] at h
  exact h
theorem rowLt_texts : ∀ xs ys : List Str, rowLt (xs.map .str) (ys.map .str) = decide (ltR xs ys)
  | [], [] => by
    rw [decide_eq_false (List.lt_irrefl _)]
    exact lex_irrefl _
  | [], y :: ys => by
    rw [decide_eq_true (show ltR [] (y :: ys) from List.nil_lt_cons _ _)]
    exact row_none _ _
  | x :: xs, [] => by
    rw [decide_eq_false (show ¬ ltR (x :: xs) [] from List.not_lt_nil _)]
    exact row_some _ _
  | x :: xs, y :: ys => by
    rw [List.map_cons, List.map_cons, row_step, rowLt_texts xs ys]
    have e : ltR (x :: xs) (y :: ys) ↔ ltT x y ∨ (x = y ∧ ltR xs ys) := by
      show (x.cps.toList :: cpL xs) < (y.cps.toList :: cpL ys) ↔ _
      rw [List.cons_lt_cons_iff]
      exact or_congr Iff.rfl (and_congr ⟨str_ext, fun z => by rw [z]⟩ Iff.rfl)
    by_cases c : x = y
    · rw [if_pos c]
      refine decide_eq_decide.mpr ?_
      rw [e]
      exact ⟨fun h => .inr ⟨c, h⟩, fun h => h.elim (fun q => absurd (c ▸ q) (ltT_irr _)) fun q => q.2⟩
    · rw [if_neg c]
      refine decide_eq_decide.mpr ?_
      rw [e]
      exact ⟨.inl, fun h => h.elim id fun q => absurd q.1 c⟩
theorem ltR_irr (xs : List Str) : ¬ ltR xs xs := List.lt_irrefl _
theorem ltR_trans {a b c : List Str} (h : ltR a b) (k : ltR b c) : ltR a c := List.lt_trans h k
theorem cpL_inj : ∀ {a b : List Str}, cpL a = cpL b → a = b
  | [], [], _ => rfl
  | [], _ :: _, h => by cases h
  | _ :: _, [], h => by cases h
  | x :: a, y :: b, h => by
    have h : x.cps.toList :: cpL a = y.cps.toList :: cpL b := h
    injection h with h1 h2
    rw [str_ext h1, cpL_inj h2]
theorem ltR_tri (a b : List Str) : ltR a b ∨ a = b ∨ ltR b a := by
  rcases Classical.em (ltR a b) with h | h
  · exact .inl h
  rcases Classical.em (ltR b a) with k | k
  · exact .inr (.inr k)
  · exact .inr (.inl (cpL_inj (List.le_antisymm (List.not_lt.mp k) (List.not_lt.mp h))))
theorem ltR_as (a b : List Str) (h : ltR a b) : ¬ ltR b a := fun k => ltR_irr _ (ltR_trans h k)
def encR (z : Addr × List Str) : PyData := .tuple (z.2.map .str)
theorem encR_lt (a b : Addr × List Str) : dataLt (encR a) (encR b) = decide (ltR a.2 b.2) := by
  unfold encR
  rw [dataLt_tuple]
  exact rowLt_texts _ _
theorem encR_le (a b : Addr × List Str) : dataLe false encR a b = true ↔ ¬ ltR b.2 a.2 := by
  rw [dataLe_eq]
  show (!dataLt (encR b) (encR a)) = true ↔ _
  rw [encR_lt, Bool.not_eq_true', decide_eq_false_iff_not]
theorem alike_texts : ∀ xs ys : List Str, alikeAll (xs.map .str) (ys.map .str) = true
  | [], _ => by simp [alikeAll]
  | _ :: _, [] => by simp [alikeAll]
  | x :: xs, y :: ys => by
    have ih := alike_texts xs ys
    simp [alikeAll, alike, ih]
theorem depth_texts : ∀ xs : List Str, PyData.depthAll (xs.map .str) ≤ 1
  | [] => by simp [PyData.depthAll]
  | x :: xs => by
    have ih := depth_texts xs
    simp only [List.map_cons, PyData.depthAll, PyData.depth]
    omega
theorem reads_texts {h : Heap} : ∀ {xs : List Str} {us : List Value}, Vals (xs.map V.str) us → ReadsAll h us (xs.map .str) []
  | [], _, .nil => .nil
  | x :: xs, _, .cons r t => by
    obtain ⟨k, e⟩ : ∃ k, _ = Value.str x k := r
    subst e
    exact .cons (as := []) (bs := []) (.str _ _) (reads_texts t)
def keyT (xs : List Str) : List Key := xs.map Sum.inr
theorem keyT_v (xs : List Str) : (keyT xs).map kV = xs.map V.str := by unfold keyT; rw [List.map_map]; rfl
def rSortK : List V → Hp → VK → Prop := fun vs H Q => ∃ (a : Addr) (kvs : List (List Key × V)) (ks : List (List Str)), vs = [.ref a] ∧ Rd H a (.dT kvs) ∧ kvs.map (·.1) = ks.map keyT ∧ (∀ k ∈ ks, k ≠ []) ∧ ks.length ≤ 1000 ∧
  ∀ (qs : List (Addr × List Str)) (p : Addr), (qs.map (·.2)).Perm ks → (qs.map (·.2)).Pairwise (fun x y => ¬ ltR y x) → (∀ q ∈ qs, H q.1 = some (.tup (q.2.map V.str))) → H p = none → Q (.ref p) (upd H p (.lst (qs.map fun q => V.ref q.1)))
theorem vals_refs {α : Type} (g : α → Addr) : ∀ qs : List α, Vals (qs.map fun q => V.ref (g q)) (qs.map fun b => Value.ref (g b))
  | [] => .nil
  | q :: qs => .cons (show RelV (V.ref (g q)) (Value.ref (g q)) from rfl) (vals_refs g qs)
section
variable {X : Cx}
theorem cr_sortK (hc : X.calm = true) (hu : X.A.units + 64 < cLine) : CallR X (.builtin "sorted") rSortK := by
  intro pins s σ H vs us Q I r h
  obtain ⟨a, kvs, ks, rfl, ha, hks, hne, few, q⟩ := h
  rw [Vals.ref1 r]
  obtain ⟨z, lo, xs, rel, dd⟩ := dt_rd I.hok ha
  obtain ⟨o, es, ep, ho, hex, hdat, hes, his, hnd⟩ := id dd
  have l1 : kvs.length = xs.length := Paired.length rel
  have l2 : kvs.length = ks.length := by
    have e := congrArg List.length hks
    rwa [List.length_map, List.length_map] at e
  have le : es.size = xs.length := size_of_entries hes
  obtain ⟨bs, eb⟩ : ∃ bs : List (Addr × List Str), bs = (xs.map fun x => x.2.1).zip ks := ⟨_, rfl⟩
  have lb : bs.length = ks.length := by rw [eb, List.length_zip, List.length_map]; omega
  have bat : ∀ (i : Nat) (b : Addr × List Str), bs[i]? = some b → ∃ x, xs[i]? = some x ∧ x.2.1 = b.1 ∧ ks[i]? = some b.2 ∧ H b.1 = some (.tup (b.2.map V.str)) := fun i b e => by
    rw [eb] at e
    obtain ⟨e1, e2⟩ := List.getElem?_zip_eq_some.mp e
    rw [List.getElem?_map] at e1
    cases ex : xs[i]? with
    | none => rw [ex] at e1; cases e1
    | some x =>
      rw [ex] at e1
      have e1 : x.2.1 = b.1 := Option.some.inj e1
      obtain ⟨kv, hk, r1, r2, r3⟩ := paired_at rel ex
      have ek : (kvs.map (·.1))[i]? = some kv.1 := by rw [List.getElem?_map, hk]; rfl
      rw [hks, List.getElem?_map, e2] at ek
      have ek : keyT b.2 = kv.1 := Option.some.inj ek
      refine ⟨x, rfl, e1, e2, ?_⟩
      rw [← ek, e1, keyT_v] at r2
      exact r2
  have bmem : ∀ b ∈ bs, H b.1 = some (.tup (b.2.map V.str)) := fun b hb => by
    obtain ⟨i, hi⟩ := List.mem_iff_getElem?.mp hb
    obtain ⟨_, _, _, _, h⟩ := bat i b hi
    exact h
  have bks : ∀ b ∈ bs, b.2 ∈ ks := fun b hb => by
    obtain ⟨i, hi⟩ := List.mem_iff_getElem?.mp hb
    obtain ⟨_, _, _, h, _⟩ := bat i b hi
    exact List.mem_of_getElem? h
  have bat' : ∀ i, i < bs.length → ∃ x b, xs[i]? = some x ∧ bs[i]? = some b ∧ x.2.1 = b.1 := fun i hi => by
    obtain ⟨x, hx, e1, _, _⟩ := bat i bs[i] (List.getElem?_eq_getElem hi)
    exact ⟨x, bs[i], hx, List.getElem?_eq_getElem hi, e1⟩
  refine Calls.call_function_entry PyProof.Rows.kind_sorted PyProof.Rows.plain_sorted PyProof.Rows.entry_sorted (PyProof.Rows.args_sorted1 _) ?_
  unfold Builtin.«sorted»
  refine wpAny_bind (m := checkCount "sorted" 1 1 _) (wpAny_pure (wpAny_bind (kdu_collect (A := X.A.in1) (KdlSrc.rawDict (es := es) (ep := ep) lo) (I.ok.hd hc) ⟨o, ho, hex, hdat⟩ (by rw [le, ← l1]; exact z) fun h' tk acc hk hacc => ?_)))
  have eacc : acc.toList = bs.map fun b => Value.ref b.1 := by
    apply List.ext_getElem?
    intro i
    rw [Array.getElem?_toList, List.getElem?_map]
    cases e : acc[i]? with
    | none =>
      have h1 : acc.size ≤ i := Array.getElem?_eq_none_iff.mp e
      rw [List.getElem?_eq_none (by rw [lb, ← l2, l1, ← le, ← hacc.1]; exact h1)]
      rfl
    | some v =>
      obtain ⟨hi, hv⟩ := hacc.2 i v e
      obtain ⟨x, b, hx, hb, e1⟩ := bat' i (by rw [lb, ← l2, l1, ← le]; exact hi)
      have en := entry_at hes i
      rw [hx, Array.getElem?_eq_getElem hi] at en
      rw [hb, hv, Option.some.inj en]
      exact congrArg (fun z => some (Value.ref z)) e1
  have I1 : Inv X pins σ H { s with heap := h', toks := tk } := I.kept (t' := tk) hk
  refine wpAny_bind (wpAny_newList ?_ (by rw [eacc, List.length_map, lb, sizeLine_eq]; omega))
  show wpAny _ _ _ _ _ { s with heap := h'.push (seqObj "list" acc.toList.toArray 0), toks := tk }
  have hoL : (h'.push (seqObj "list" acc.toList.toArray 0)).get? h'.objs.size = some (seqObj "list" acc.toList.toArray 0) := Heap.get?_push_size _ rfl
  have I2 : Inv X pins σ H { s with heap := h'.push (seqObj "list" acc.toList.toArray 0), toks := tk } := I1.kept (t' := tk) fun b u e => Heap.get?_push_of_some _ e
  have rd : ∀ b ∈ bs, ∃ as, Reads (h'.push (seqObj "list" acc.toList.toArray 0)) (.ref b.1) (encR b) as ∧ h'.objs.size ∉ as := fun b hb => by
    obtain ⟨its, rv, ⟨ot, hot, hct, nt, hdt⟩, _⟩ := I2.tuple (SqT.of (bmem b hb))
    exact ⟨[], .tuple hot hct hdt (by simpa using reads_texts rv), by simp⟩
  refine wpAny_bind (wpAny_holding (list_sort_data (s := { s with heap := h'.push (seqObj "list" acc.toList.toArray 0), toks := tk }) (R := fun v b => v = .ref b.1 ∧ b ∈ bs) (bs := bs) (enc := encR) hoL ?_ ?_ (.of fun b b' => ?_) ?_ (by rw [lb, sizeLine_eq]; omega) (fun b hb => ?_) fun out ho' hs => ?_))
  · rw [eacc]; exact each_of _ (fun _ h => h) bs fun b hb => ⟨rfl, hb⟩
  · have rd' := each_of (R := fun v b => ∃ as, Reads (h'.push (seqObj "list" acc.toList.toArray 0)) v (encR b) as ∧ h'.objs.size ∉ as) (fun b : Addr × List Str => Value.ref b.1) (fun _ h => h) bs rd
    rw [← eacc] at rd'
    exact rd'
  · unfold encR
    simp only [alike]
    exact alike_texts _ _
  · refine .inl fun d hd => ?_
    obtain ⟨b, hb, rfl⟩ := List.mem_map.mp hd
    have := hne _ (bks b hb)
    unfold encR
    cases e : b.2 with
    | nil => exact absurd e this
    | cons x r => exact ⟨_, _, rfl⟩
  · show X.A.in1.units + 1 + (encR b).depth < cLine
    have e : (encR b).depth ≤ 2 := by
      unfold encR
      simp only [PyData.depth]
      have := depth_texts b.2
      omega
    have e2 : X.A.in1.units = X.A.units + 1 := rfl
    omega
  · obtain ⟨qs, eq⟩ : ∃ qs, qs = bs.mergeSort (dataLe false encR) := ⟨_, rfl⟩
    rw [← eq] at hs
    have pq : qs.Perm bs := by rw [eq]; exact List.mergeSort_perm _ _
    have eo : out = qs.map fun b => Value.ref b.1 := each_eq _ (hs.mono fun v b h => h.1)
    have p2 : (qs.map (·.2)).Perm ks := by
      have e := pq.map (·.2)
      rw [eb, List.map_snd_zip (by rw [List.length_map]; omega)] at e
      exact e
    have so : (qs.map (·.2)).Pairwise (fun x y => ¬ ltR y x) := by
      rw [List.pairwise_map, eq]
      refine (List.pairwise_mergeSort (le := dataLe false encR) (fun a b c h k => ?_) (fun a b => ?_) bs).imp fun h => (encR_le _ _).mp h
      · have h1 := (encR_le a b).mp h
        have h2 := (encR_le b c).mp k
        refine (encR_le a c).mpr fun z => ?_
        rcases ltR_tri a.2 b.2 with c1 | c1 | c1
        · exact h2 (ltR_trans z c1)
        · rw [c1] at z; exact h2 z
        · exact h1 c1
      · rcases Classical.em (ltR b.2 a.2) with h | h
        · rw [(encR_le b a).mpr (ltR_as _ _ h), Bool.or_true]
        · rw [(encR_le a b).mpr h]; rfl
    have hn : H h'.objs.size = none := I1.hok.fresh (Nat.le_refl _)
    obtain ⟨c, hcc⟩ := sortedHeap_at (vs := acc.toList) (out := out.toArray) hoL
    have lq : (qs.map fun q => V.ref q.1).length ≤ sizeLine := by rw [List.length_map, pq.length_eq, lb, sizeLine_eq]; omega
    refine wpAny_pure ⟨_, rfl, ?_⟩
    refine ⟨.ref h'.objs.size, upd H h'.objs.size (.lst (qs.map fun q => V.ref q.1)), I1.laid (o := .lst (qs.map fun q => V.ref q.1)) (t' := tk) (h' := sortedHeap (h'.push (seqObj "list" acc.toList.toArray 0)) h'.objs.size acc.toList out.toArray) (fun b u e => ?_) (Nat.le_refl _) ⟨lq, out, c, ?_, hcc⟩, rfl, q qs h'.objs.size p2 so (fun q' hq' => bmem q' (pq.mem_iff.mp hq')) hn⟩
    · have hlt := Heap.lt_size e
      rw [sortedHeap_old (Nat.ne_of_lt hlt) (by rw [Heap.size_push]; exact Nat.lt_succ_of_lt hlt)]
      exact Heap.get?_push_of_some _ e
    · rw [eo]
      exact vals_refs (fun q => q.1) qs
end
end DTp
set_option Elab.async false
set_option linter.all false
set_option maxRecDepth 100000
set_option maxHeartbeats 2000000
namespace TxT
open PySem PySem.Spec PyProof.Rows L2
abbrev gh (P : Program) (w : World) (k : List Key) : Int := tupleKeyHash (mixKind P w) k
abbrev IsM (P : Program) (w : World) (h : Heap) (k : List Key) (b : Addr) : Prop := IsTupleKey (mixKind P w) h k b
/-- the c-th place looked at -/
abbrev pr (m : Nat) (g : Int) (c : Nat) : SetTable.Probe := nth m (runAt m (SetTable.bits g % (m + 1)) (SetTable.bits g)) c
theorem pr_add (m : Nat) (g : Int) (c q : Nat) : nth m (pr m g c) q = pr m g (c + q) := (nth_add m c _ q).symm
theorem pr_way (m : Nat) (g : Int) (c q : Nat) : (nth m (pr m g c) q).j = way m g (c + q) := congrArg SetTable.Probe.j (pr_add m g c q)
theorem dm_nth (m : Nat) : ∀ (n : Nat) (p : SetTable.Probe), p.dummy = none → (nth m p n).dummy = none
  | 0, _, h => h
  | n + 1, p, h => dm_nth m n (adv m p) (by unfold adv; split <;> exact h)
section
variable {P : Program} {w : World} {A : Around} {E : Value → Shared → Prop} {s : Shared}
theorem soft {k : List Key} {vs : List Value} (h : ItemsAre (mixKind P w) k vs) : ∀ v ∈ vs, (∀ n, ofAClassStatement n v = pure false) ∧ ∀ n, ∃ b, hashByValue n v = pure b := by
  induction h with
  | nil => exact fun v hv => by cases hv
  | cons h1 _ ih =>
    refine fun v hv => (List.mem_cons.mp hv).elim (fun e => ?_) (ih v)
    rw [e]
    rcases keyIs_shape h1 with ⟨i, t, _, rfl⟩ | ⟨y, t, _, rfl⟩
    · exact ⟨fun n => by cases n <;> rfl, fun n => ⟨true, by cases n <;> rfl⟩⟩
    · exact ⟨fun n => by cases n <;> rfl, fun n => ⟨false, by cases n <;> rfl⟩⟩
theorem noClass {k : List Key} {b : Addr} {Q : Bool → Shared → Prop} (hk : IsM P w s.heap k b) (q : Q false s) : wpAny (model P w) A (ofAClassStatement 8 (.ref b)) Q E s := by
  have ty := hk.typeIs
  obtain ⟨o, its, n, ho, _, hd, hi⟩ := hk
  unfold ofAClassStatement
  refine wpAny_bind (wpAny_typeOf ty ?_)
  have c1 : (("tuple" : String) == "tuple") = true := rfl
  dsimp only
  rw [if_pos c1]
  refine wpAny_bind (wpAny_pure (wp_if_neg (fun z => by cases z) ?_))
  try refine wpAny_bind (wpAny_pure ?_)
  refine wpAny_bind (wpAny_seqItems ho hd ?_)
  dsimp only
  refine wpAny_bind ?_
  show wpAny _ _ (forIn its _ _) _ _ s
  rw [← Array.forIn_toList]
  refine wpAny_forIn_list _ (fun l r z => (r.1 = none ∧ z = s) ∧ ∀ v ∈ l, ∀ n, ofAClassStatement n v = pure false) _ ?_ ?_ _ _ ⟨⟨rfl, rfl⟩, fun v hv => (soft hi v hv).1⟩
  · rintro v l r z ⟨⟨e1, rfl⟩, al⟩
    rw [al v (.head _)]
    refine wpAny_bind (wpAny_pure ?_)
    rw [if_neg (fun z => by cases z)]
    exact wpAny_pure ⟨⟨rfl, rfl⟩, fun u hu => al u (.tail _ hu)⟩
  · rintro ⟨r1, _⟩ z ⟨⟨e1, rfl⟩, _⟩
    cases e1
    exact wpAny_pure q
theorem someVal {k : List Key} {b : Addr} {Q : Bool → Shared → Prop} (hk : IsM P w s.heap k b) (q : ∀ v, Q v s) : wpAny (model P w) A (hashByValue 8 (.ref b)) Q E s := by
  have ty := hk.typeIs
  obtain ⟨o, its, n, ho, _, hd, hi⟩ := hk
  unfold hashByValue
  refine wpAny_bind (wpAny_specialOf ty F.slot_tuple_hash.lookup ?_)
  show wpAny _ _ (seqItems? (.ref b) >>= _) _ _ s
  refine wpAny_bind (wpAny_seqItems ho hd (wpAny_bind ?_))
  show wpAny _ _ (forIn its _ _) _ _ s
  rw [← Array.forIn_toList]
  refine wpAny_forIn_list _ (fun l r z => z = s ∧ ∀ v ∈ l, ∀ n, ∃ c, hashByValue n v = pure c) _ ?_ ?_ _ _ ⟨rfl, fun v hv => (soft hi v hv).2⟩
  · rintro v l r z ⟨rfl, al⟩
    obtain ⟨c, ec⟩ := al v (.head _) 7
    rw [ec]
    refine wpAny_bind (wpAny_pure ?_)
    cases c with
    | true => exact wp_if_neg (fun z => by cases z) (wpAny_pure ⟨rfl, fun u hu => al u (.tail _ hu)⟩)
    | false => exact wp_if_pos rfl (wpAny_pure (wpAny_pure (q _)))
  · rintro ⟨r1, r2⟩ z ⟨rfl, _⟩
    cases r1 with
    | none => exact wpAny_pure (q _)
    | some v => exact wpAny_pure (q _)
/-- looking among such tuples can't be seen -/
theorem unseen {k : List Key} {b : Addr} {Q : Bool → Shared → Prop} (hk : IsM P w s.heap k b) {ys : List Value} (hy : ∀ y ∈ ys, ∃ k' c, y = Value.ref c ∧ IsM P w s.heap k' c) (q : Q false s) :
    wpAny (model P w) A (searchCouldBeSeen (.ref b) ys) Q E s := by
  unfold searchCouldBeSeen
  refine wpAny_bind (wpAny_forIn_list _ (fun l r z => (r.1 = none ∧ z = s) ∧ ∀ y ∈ l, ∃ k' c, y = Value.ref c ∧ IsM P w s.heap k' c) _ ?_ ?_ _ _ ⟨⟨rfl, rfl⟩, hy⟩)
  · rintro v l r z ⟨⟨e1, rfl⟩, al⟩
    obtain ⟨k', c, rfl, hc⟩ := al v (.head _)
    have al' : ∀ y ∈ l, ∃ k' c, y = Value.ref c ∧ IsM P w z.heap k' c := fun u hu => al u (.tail _ hu)
    dsimp only
    by_cases hv : (b == c || (carriedByValue (.ref b) && carriedByValue (.ref c))) = true
    · exact wp_if_pos hv (wpAny_pure ⟨⟨rfl, rfl⟩, al'⟩)
    refine wp_if_neg hv (wpAny_bind (wpAny_eqIsQuiet_tuple hk ?_))
    refine wp_if_neg (fun z => by cases z) (wpAny_bind (wpAny_eqIsQuiet_tuple hc ?_))
    refine wp_if_neg (fun z => by cases z) (wpAny_bind (noClass hk ?_))
    refine wp_if_neg (fun z => by cases z) (wpAny_bind (noClass hc ?_))
    exact wp_if_neg (fun z => by cases z) (wpAny_pure ⟨⟨rfl, rfl⟩, al'⟩)
  · rintro ⟨r1, _⟩ z ⟨⟨e1, rfl⟩, _⟩
    cases e1
    exact wpAny_pure q
end
end TxT
set_option Elab.async false
set_option linter.all false
set_option maxRecDepth 100000
set_option maxHeartbeats 2000000
namespace TxT
open PySem PySem.Spec PyProof.Rows L2
section
variable {P : Program} {w : World} {A : Around} {E : Value → Shared → Prop} {s : Shared}
def ent (P : Program) (w : World) (p : Addr × List Key) : Int × Value := (gh P w p.2, Value.ref p.1)
/-- the set at a, its tuples L in the table's order -/
structure Tb (P : Program) (w : World) (h : Heap) (a : Addr) (L : List (Addr × List Key)) (es : Array (Int × Value)) (ep : Nat) (t : SetTable) : Prop where
  ob : ∃ o, h.get? a = some o ∧ o.ExactSet ∧ o.data = .set es ep t
  en : es.toList = L.map (ent P w)
  tab : TabOk t (L.map fun p => gh P w p.2)
  nd : (L.map (·.2)).Nodup
  tu : ∀ p ∈ L, IsM P w h p.2 p.1
  led : w.params.followText "set-order" = true ∨ t.led = true
  room : L.length * 5 < t.mask * 3
  few : L.length < 64
variable {a : Addr} {L : List (Addr × List Key)} {es : Array (Int × Value)} {ep : Nat} {t : SetTable}
theorem size_en (e : es.toList = L.map (ent P w)) : es.size = L.length := by rw [← Array.length_toList, e, List.length_map]
theorem fits_of (z : t.place.size = es.size) (d : t.dummies = #[]) (l : es.size ≤ t.mask) : t.fits es.size = true := by
  unfold SetTable.fits SetTable.fill
  rw [d, z]
  simp [l]
theorem Tb.size (R : Tb P w s.heap a L es ep t) : es.size = L.length := size_en R.en
theorem Tb.place (R : Tb P w s.heap a L es ep t) : t.place.size = es.size := by rw [R.tab.sz, List.length_map, R.size]
theorem Tb.fits (R : Tb P w s.heap a L es ep t) : t.fits es.size = true := fits_of R.place R.tab.dm (by rw [R.size]; have := R.room; omega)
theorem Tb.at (R : Tb P w s.heap a L es ep t) {i : Nat} {p : Addr × List Key} (h : L[i]? = some p) : es[i]? = some (ent P w p) := by
  rw [← Array.getElem?_toList, R.en, List.getElem?_map, h]; rfl
theorem Tb.even (R : Tb P w s.heap a L es ep t) : ¬ t.gaveWay = true := by
  unfold SetTable.gaveWay
  rw [mask_odd R.tab.mok]; decide
/-- where the i-th stands -/
theorem Tb.seat (R : Tb P w s.heap a L es ep t) {i : Nat} {j : Nat} (h : t.place.toList[i]? = some j) : ∃ p, L[i]? = some p ∧ p ∈ L := by
  have l : i < L.length := by
    have h1 := (List.getElem?_eq_some_iff.mp h).1
    have h2 := R.place; have h3 := R.size
    rw [Array.length_toList] at h1; omega
  exact ⟨L[i], List.getElem?_eq_getElem l, List.getElem_mem l⟩
/-- the look from the c-th place on: K is the first that is empty -/
theorem look (R : Tb P w s.heap a L es ep t) {x : Addr} {k : List Key} (hx : IsM P w s.heap k x) (hu : A.units < cLine) {K : Nat} (lK : K < 10 * SetTable.turns t.mask) (eK : way t.mask (gh P w k) K ∉ t.place.toList)
    (bK : ∀ c, c < K → way t.mask (gh P w k) c ∈ t.place.toList) {Q : SetFound → Shared → Prop} (yes : k ∈ L.map (·.2) → Q (.there none) s) (no : k ∉ L.map (·.2) → Q (.free (way t.mask (gh P w k) K) false) s) (f : Nat) :
    ∀ (c : Nat) (st : Option SetTable.Probe), st.getD (t.probeStart (gh P w k)) = pr t.mask (gh P w k) c → c ≤ K → K < f + c → (∀ (i : Nat) (p : Addr × List Key), L[i]? = some p → p.2 = k → ∃ d, c ≤ d ∧ d < K ∧ t.place.toList[i]? = some (way t.mask (gh P w k) d)) →
      wpAny (model P w) A (setSearchFrom a (.ref x) (gh P w k) true f st) Q E s := by
  induction f with
  | zero => intro c st _ h1 h2; exact absurd h2 (by omega)
  | succ f ih =>
    intro c st est cK hf ahead
    obtain ⟨o, ho, hex, hd⟩ := R.ob
    have probe_is : ∀ r, SetTable.probe.go t (fun i : Nat => (es[i]?.map (·.1)).getD 0) (gh P w k) (10 * SetTable.turns t.mask) (pr t.mask (gh P w k) c) = some r →
        t.probe (fun i : Nat => (es[i]?.map (·.1)).getD 0) (gh P w k) (st.getD (t.probeStart (gh P w k))) = some r := fun r e => by rw [est]; exact e
    have hash_is : ∀ (i : Nat) (p : Addr × List Key), L[i]? = some p → ((es[i]?.map (·.1)).getD 0) = gh P w p.2 := fun i p e => by rw [R.at e]; rfl
    rw [setSearchFrom_succ]
    refine wpAny_bind (wpAny_setState_of ho hd R.fits ?_)
    dsimp only
    refine wp_if_neg R.even ?_
    try refine wpAny_bind (wpAny_pure ?_)
    rcases go_spec t R.tab.ris R.tab.dm (fun i : Nat => (es[i]?.map (·.1)).getD 0) (gh P w k) (10 * SetTable.turns t.mask) (K - c) (pr t.mask (gh P w k) c) (dm_nth _ _ _ rfl) (by omega)
      (fun q hq => by rw [pr_way]; exact bK _ (by omega)) (by rw [pr_way, Nat.add_sub_cancel' cK]; exact eK) with ⟨q, i, lq, pi, hi, before, ans⟩ | ⟨before, ans⟩
    · rw [probe_is _ ans]
      rw [pr_way] at pi
      obtain ⟨p, ep', mp⟩ := R.seat pi
      have live : t.slot (way t.mask (gh P w k) (c + q)) = .live i := slot_live R.tab.ris pi
      have step : wpAny (model P w) A (searchRest a (.ref x) (gh P w k) true f es t (nth t.mask (pr t.mask (gh P w k) c) q).j i (nth t.mask (pr t.mask (gh P w k) c) (q + 1))) Q E s := by
        rw [pr_way, pr_add]
        unfold searchRest
        rw [R.at ep']
        show wpAny _ _ (holding [Value.ref p.1] (eqBool (.ref p.1) (.ref x)) >>= _) _ _ _
        refine wpAny_bind (wpAny_holding (wpAny_eqBool_tuple hu (R.tu p mp) hx (wpAny_bind (wpAny_setState_of ho hd R.fits ?_))))
        dsimp only
        by_cases same : p.2 = k
        · exact wp_if_pos (by rw [decide_eq_true same]; rfl) (wpAny_pure (yes (List.mem_map.mpr ⟨p, mp, same⟩)))
        · refine wp_if_neg (by rw [decide_eq_false same]; exact fun z => by cases z) ?_
          try refine wpAny_bind (wpAny_pure ?_)
          rw [sameMem]
          dsimp only
          rw [if_pos rfl, live]
          dsimp only
          rw [R.at ep']
          refine wpAny_bind (wpAny_isSame_ref_self (wpAny_bind (wpAny_pure ?_)))
          rw [if_pos rfl]
          refine wp_if_neg (by rw [decide_eq_false same]; exact fun z => by cases z) (ih (c + (q + 1)) _ rfl (by omega) (by omega) fun i2 p2 h2 k2 => ?_)
          obtain ⟨d, d1, d2, d3⟩ := ahead i2 p2 h2 k2
          have le : c + q + 1 ≤ d := by
            rcases Nat.lt_trichotomy d (c + q) with l | e | l
            · exact absurd ((hash_is i2 p2 h2).trans (congrArg (gh P w) k2)) (before (d - c) i2 (by omega) (by rw [pr_way, Nat.add_sub_cancel' d1]; exact d3))
            · rw [e] at d3
              have z := slot_live R.tab.ris d3
              rw [live] at z
              injection z with z
              rw [z, h2] at ep'
              exact absurd ((congrArg Prod.snd (Option.some.inj ep')).symm.trans k2) same
            · exact l
          exact ⟨d, le, d2, d3⟩
      dsimp only
      by_cases ld : t.led = true
      · refine wp_if_neg (by rw [ld]; exact fun z => by cases z) ?_
        try refine wpAny_bind (wpAny_pure ?_)
        exact step
      · refine wp_if_pos (by rw [Bool.not_eq_true] at ld; rw [ld]; rfl) (wpAny_bind (unseen hx (fun y hy => ?_) (wp_if_neg (fun z => by cases z) ?_)))
        · obtain ⟨e, he, rfl⟩ := List.mem_map.mp hy
          have he : e ∈ es.toList := by
            have z : e ∈ es ∧ e.1 = gh P w k := by simpa using he
            simpa using z.1
          rw [R.en] at he
          obtain ⟨p2, m2, rfl⟩ := List.mem_map.mp he
          exact ⟨p2.2, p2.1, rfl, R.tu p2 m2⟩
        · try refine wpAny_bind (wpAny_pure ?_)
          exact step
    · rw [probe_is _ ans, pr_way, Nat.add_sub_cancel' cK]
      refine wpAny_pure (no fun hm => ?_)
      obtain ⟨p2, m2, k2⟩ := List.mem_map.mp hm
      obtain ⟨i2, h2⟩ := List.mem_iff_getElem?.mp m2
      obtain ⟨d, d1, d2, d3⟩ := ahead i2 p2 h2 k2
      exact before (d - c) i2 (by omega) (by rw [pr_way, Nat.add_sub_cancel' d1]; exact d3) ((hash_is i2 p2 h2).trans (congrArg (gh P w) k2))
/-- asked of all the table -/
theorem look_all (R : Tb P w s.heap a L es ep t) {x : Addr} {k : List Key} (hx : IsM P w s.heap k x) (hu : A.units < cLine) {Q : SetFound → Shared → Prop} (yes : k ∈ L.map (·.2) → Q (.there none) s)
    (no : ∀ K, k ∉ L.map (·.2) → way t.mask (gh P w k) K ∉ t.place.toList → (∀ c, c < K → way t.mask (gh P w k) c ∈ t.place.toList) → Q (.free (way t.mask (gh P w k) K) false) s) :
    wpAny (model P w) A (setSearch a (.ref x) (gh P w k) true) Q E s := by
  have ro := R.room
  obtain ⟨K, k1, k2, k3⟩ := R.tab.first (by rw [List.length_map]; omega) (gh P w k)
  have far : 10 * SetTable.turns t.mask < 100000 := by
    unfold SetTable.turns
    rcases R.tab.mok with e | e | e <;> rw [e] <;> decide
  refine look R hx hu k1 k2 k3 yes (fun h => no K h k2 k3) 100000 0 none rfl (Nat.zero_le _) (by omega) fun i p ei ek => ?_
  have lt : i < t.place.toList.length := by
    have h1 := (List.getElem?_eq_some_iff.mp ei).1
    have h2 := R.place; have h3 := R.size
    rw [Array.length_toList]; omega
  obtain ⟨d, d1, d2⟩ := R.tab.before k2 (i := i) (by rw [List.getElem?_map, ei, ← ek]; rfl) (List.getElem?_eq_getElem lt)
  exact ⟨d, Nat.zero_le _, d1, by rw [List.getElem?_eq_getElem lt, d2]⟩
end
end TxT
set_option Elab.async false
set_option linter.all false
set_option maxRecDepth 100000
set_option maxHeartbeats 2000000
namespace TxT
open PySem PySem.Spec PyProof.Rows L2
theorem all_again {α : Type} (L : List α) : (List.range L.length).filterMap (fun i => L[i]?) = L := by
  have e : (List.range L.length).map (fun i => L[i]?) = L.map some := by
    apply List.ext_getElem?
    intro i
    rw [List.getElem?_map, List.getElem?_map]
    by_cases h : i < L.length
    · rw [List.getElem?_range h, Option.map_some, List.getElem?_eq_getElem h]; rfl
    · rw [List.getElem?_eq_none (by rw [List.length_range]; omega), List.getElem?_eq_none (by omega)]; rfl
  have e2 : (List.range L.length).filterMap (fun i => L[i]?) = ((List.range L.length).map (fun i => L[i]?)).filterMap id := by rw [List.filterMap_map]; rfl
  rw [e2, e, List.filterMap_map]
  exact List.filterMap_some
theorem fm_congr {α β : Type} {f g : α → Option β} : ∀ {l : List α}, (∀ x ∈ l, f x = g x) → l.filterMap f = l.filterMap g
  | [], _ => rfl
  | x :: l, h => by rw [List.filterMap_cons, List.filterMap_cons, h x List.mem_cons_self, fm_congr fun y hy => h y (List.mem_cons_of_mem _ hy)]
section
variable {P : Program} {w : World} {A : Around} {E : Value → Shared → Prop} {s : Shared}
theorem IsM.but {h h' : Heap} {k : List Key} {a b : Addr} {o : Obj} {es : Array (Int × Value)} {ep : Nat} {t : SetTable} (hb : IsM P w h k b) (ho : h.get? a = some o) (hd : o.data = .set es ep t) (sb : Heap.SameBut a h h') : IsM P w h' k b := by
  obtain ⟨u, its, n, hu, hc, hs, hi⟩ := hb
  refine ⟨u, its, n, (sb.2 b fun z => ?_).trans hu, hc, hs, hi⟩
  rw [z, ho] at hu
  rw [← Option.some.inj hu, hd] at hs
  cases hs
theorem IsM.mono {h h' : Heap} {k : List Key} {b : Addr} (x : IsM P w h k b) (kp : ∀ c o, h.get? c = some o → h'.get? c = some o) : IsM P w h' k b := let ⟨o, its, n, ho, r⟩ := x; ⟨o, its, n, kp _ _ ho, r⟩
theorem en_at {L : List (Addr × List Key)} {es : Array (Int × Value)} (e : es.toList = L.map (ent P w)) (i : Nat) : es[i]? = (L[i]?).map (ent P w) := by rw [← Array.getElem?_toList, e, List.getElem?_map]
/-- the entries in another order -/
theorem reorder {L : List (Addr × List Key)} {es : Array (Int × Value)} {ord : Array Nat} (e : es.toList = L.map (ent P w)) (pm : ord.toList.Perm (List.range L.length)) :
    ∃ L2 : List (Addr × List Key), (ord.filterMap (es[·]?)).toList = L2.map (ent P w) ∧ L2.Perm L ∧ (L2.map fun p => gh P w p.2) = ord.toList.map fun i => (es.map (·.1)).getD i 0 := by
  refine ⟨ord.toList.filterMap fun i => L[i]?, ?_, ?_, ?_⟩
  · rw [Array.toList_filterMap, List.map_filterMap]
    exact congrArg (fun g => List.filterMap g ord.toList) (funext fun i => en_at e i)
  · have z := pm.filterMap fun i => L[i]?
    rwa [all_again] at z
  · rw [List.map_filterMap, ← List.filterMap_eq_map]
    refine fm_congr fun i hi => ?_
    have lt : i < L.length := List.mem_range.mp (pm.mem_iff.mp hi)
    have e1 : (es.map (·.1))[i]? = some (gh P w (L[i]).2) := by
      rw [Array.getElem?_map, en_at e, List.getElem?_eq_getElem lt]; rfl
    show (L[i]?).map _ = some ((es.map (·.1)).getD i 0)
    rw [Array.getD_eq_getD_getElem?, e1, List.getElem?_eq_getElem lt]; rfl
variable {a : Addr} {L : List (Addr × List Key)} {es : Array (Int × Value)} {ep : Nat} {t : SetTable}
/-- a larger table -/
theorem larger {o : Obj} (ho : s.heap.get? a = some o) (hex : o.ExactSet) (hd : o.data = .set es ep t) (en : es.toList = L.map (ent P w)) (pl : t.place.size = es.size) (dm : t.dummies = #[]) (fl : es.size ≤ t.mask) (nd : (L.map (·.2)).Nodup)
    (tu : ∀ p ∈ L, IsM P w s.heap p.2 p.1) (ld : w.params.followText "set-order" = true ∨ t.led = true) (few : L.length < 64) {wd M : Nat} (hw : SetTable.sizeAbove wd - 1 = M) (hM : MaskOk M) (w2 : SetTable.sizeAbove wd ≤ 128) (ro : L.length * 5 < M * 3)
    {Q : Unit → Shared → Prop} (q : ∀ h' L' es' ep' t', Heap.SameBut a s.heap h' → Tb P w h' a L' es' ep' t' → L'.Perm L → Q () { s with heap := h' }) : wpAny (model P w) A (setRelay a wd) Q E s := by
  have z := size_en en
  obtain ⟨t', ord, e, pm, T, em, el, _, _⟩ := relaid_ok t (hs := es.map (·.1)) (wanted := wd) hw hM (by rw [Array.size_map, z]; omega)
  rw [Array.size_map, z] at pm
  obtain ⟨L2, e1, p2, e3⟩ := reorder en pm
  rw [← e3] at T
  have z2 : (ord.filterMap (es[·]?)).size = es.size := by rw [size_en e1, p2.length_eq, z]
  have sb : Heap.SameBut a s.heap (s.heap.update a (Obj.putSet (ord.filterMap (es[·]?)) t')) := Heap.SameBut.update ..
  rw [setRelay_eq]
  refine wpAny_bind (wpAny_setState_of ho hd (fits_of pl dm fl) (wp_if_neg (by rw [sizeLine_eq]; omega) ?_))
  try refine wpAny_bind (wpAny_pure ?_)
  rw [e]
  refine wpAny_bind (wp_if_neg (by rw [z2]; simp) ?_)
  try refine wpAny_bind (wpAny_pure ?_)
  refine wpAny_pure (wpAny_storeSet_of ho hd (q _ L2 (ord.filterMap (es[·]?)) (ep + 1) t' sb ?_ p2) (by rw [z2, z, sizeLine_eq]; omega))
  exact ⟨⟨_, store_at ho hd, hex, rfl⟩, e1, T, (p2.map (·.2)).nodup_iff.mpr nd, fun p hp => IsM.but (tu p (p2.mem_iff.mp hp)) ho hd sb, by rw [el]; exact ld, by rw [p2.length_eq, em]; exact ro, by rw [p2.length_eq]; exact few⟩
/-- one is put in -/
theorem putIn (R : Tb P w s.heap a L es ep t) {x : Addr} {k : List Key} (hx : IsM P w s.heap k x) (hu : A.units < cLine) (few : L.length + 1 < 64) {Q : Bool → Shared → Prop}
    (q : ∀ b h' L' es' ep' t', Heap.SameBut a s.heap h' → Tb P w h' a L' es' ep' t' → (k ∈ L.map (·.2) → L' = L) → (k ∉ L.map (·.2) → L'.Perm ((x, k) :: L)) → Q b { s with heap := h' }) :
    wpAny (model P w) A (setAddHashed a (.ref x) (gh P w k)) Q E s := by
  obtain ⟨o, ho, hex, hd⟩ := R.ob
  unfold setAddHashed
  refine wpAny_holding ?_
  rw [show (100000 : Nat) = 99999 + 1 from rfl, setAddHashedIn_succ]
  refine wpAny_bind (wpAny_setState_of ho hd R.fits (wp_if_neg (by simp [byScan, Value.scannable]) ?_))
  try refine wpAny_bind (wpAny_pure ?_)
  refine wpAny_bind (look_all R hx hu (fun hm => wpAny_pure (q false s.heap L es ep t (Heap.SameBut.refl a s.heap) R (fun _ => rfl) fun z => absurd hm z)) fun K nk eK bK => ?_)
  obtain ⟨e2, le, T, e4, e5, _, _, _, e9⟩ := R.tab.put eK bK
  refine wpAny_bind (wpAny_setState_of ho hd R.fits ?_)
  dsimp only
  generalize t.put (way t.mask (gh P w k) K) = pt at e2 T e4 e5 e9 ⊢
  obtain ⟨t1, p⟩ := pt
  dsimp only at e2 T e4 e5 e9 ⊢
  subst e2
  generalize SetTable.below t.place (way t.mask (gh P w k) K) = p at le T ⊢
  rw [List.length_map] at le e9
  -- what stands in it then
  obtain ⟨L1, eL⟩ : ∃ L1, L1 = L.take p ++ (x, k) :: L.drop p := ⟨_, rfl⟩
  have pm : L1.Perm ((x, k) :: L) := by
    rw [eL]
    refine List.perm_middle.trans (.cons _ ?_)
    rw [List.take_append_drop]
  have lL : L1.length = L.length + 1 := pm.length_eq
  have T1 : TabOk t1 (L1.map fun p => gh P w p.2) := by
    rw [eL, List.map_append, List.map_cons, List.map_take, List.map_drop]
    exact T
  have en1 : (SetTable.insertAt es p (gh P w k, Value.ref x)).toList = L1.map (ent P w) := by
    rw [SetTable.toList_insertAt, R.en, eL, List.map_append, List.map_cons, List.map_take, List.map_drop]; rfl
  have z1 := size_en en1
  generalize SetTable.insertAt es p (gh P w k, Value.ref x) = es1 at en1 z1 ⊢
  have nd1 : (L1.map (·.2)).Nodup := (pm.map (·.2)).nodup_iff.mpr (List.nodup_cons.mpr ⟨nk, R.nd⟩)
  have zp : es.size = L.length := R.size
  -- whether by value or not
  have go : ∀ v : Bool, wpAny (model P w) A (do
        let t := if v then t1 else { t1 with plain := false }
        storeSet a es1 t
        if !false && t.tooFull then setRelay a (SetTable.grown (es.size + 1))
        return true) Q E s := fun v => by
    have mk : ∀ t2 : SetTable, TabOk t2 (L1.map fun p => gh P w p.2) → t2.mask = t.mask → t2.led = t.led → t2.fill = L.length + 1 → wpAny (model P w) A (do
        storeSet a es1 t2
        if !false && t2.tooFull then setRelay a (SetTable.grown (es.size + 1))
        return true) Q E s := fun t2 T2 m2 l2 f2 => by
      have sb : Heap.SameBut a s.heap (s.heap.update a (Obj.putSet es1 t2)) := Heap.SameBut.update ..
      have o1 := store_at (es' := es1) (t' := t2) ho hd
      refine wpAny_bind (wpAny_storeSet_of ho hd ?_ (by rw [z1, lL, sizeLine_eq]; omega))
      generalize s.heap.update a (Obj.putSet es1 t2) = h1 at sb o1 ⊢
      have tu1 : ∀ p ∈ L1, IsM P w h1 p.2 p.1 := fun p hp => (List.mem_cons.mp (pm.mem_iff.mp hp)).elim (fun e => by rw [e]; exact IsM.but hx ho hd sb) fun h => IsM.but (R.tu p h) ho hd sb
      have ld1 : w.params.followText "set-order" = true ∨ t2.led = true := by rw [l2]; exact R.led
      have few1 : L1.length < 64 := by omega
      have ro := R.room
      by_cases full : (L.length + 1) * 5 ≥ t.mask * 3
      · have tf : t2.tooFull = true := by
          unfold SetTable.tooFull
          rw [f2, m2]; exact decide_eq_true full
        have grow : ∀ M, SetTable.sizeAbove (SetTable.grown (es.size + 1)) = M + 1 → MaskOk M → M < 128 → L1.length * 5 < M * 3 →
            wpAny (model P w) A (setRelay a (SetTable.grown (es.size + 1))) (fun _ s' => wpAny (model P w) A (pure true) Q E s') E { s with heap := h1 } := fun M a1 a2 a3 a4 =>
          larger (s := { s with heap := h1 }) o1 hex rfl en1 (by rw [T2.sz, List.length_map, z1]) T2.dm (by rw [z1, m2]; rcases R.tab.mok with e | e | e <;> rw [e] at ro ⊢ <;> omega) nd1 tu1 ld1 few1 (by rw [a1]; rfl) a2 (by omega) a4
            fun h2 L2 es2 ep2 t3 sb2 R2 pm2 => wpAny_pure (q true h2 L2 es2 ep2 t3 (sb.trans sb2) R2 (fun z => absurd z nk) fun _ => pm2.trans pm)
        first
          | (refine wpAny_bind ?_; refine wp_if_pos (by rw [tf]; rfl) ?_)
          | (refine wp_if_pos (by rw [tf]; rfl) ?_; refine wpAny_bind ?_)
        rcases R.tab.mok with e | e | e <;> rw [e] at full ro
        · have z : es.size + 1 = 5 := by omega
          exact grow 31 (by rw [z, size_20]) (.inr (.inl rfl)) (by decide) (by omega)
        · have z : es.size + 1 = 19 := by omega
          exact grow 127 (by rw [z, size_76]) (.inr (.inr rfl)) (by decide) (by omega)
        · omega
      · have tf : ¬ t2.tooFull = true := by
          unfold SetTable.tooFull
          rw [f2, m2]; exact fun z => full (of_decide_eq_true z)
        have fin : wpAny (model P w) A (pure true) Q E { s with heap := h1 } := wpAny_pure (q true h1 L1 es1 (ep + 1) t2 sb ⟨⟨_, o1, hex, rfl⟩, en1, T2, nd1, tu1, ld1, by rw [lL, m2]; omega, few1⟩ (fun z => absurd z nk) fun _ => pm)
        first
          | exact wp_if_neg (by rw [Bool.not_eq_true] at tf; rw [tf]; simp) fin
          | (refine wpAny_bind (wp_if_neg (by rw [Bool.not_eq_true] at tf; rw [tf]; simp) (wpAny_pure ?_)); exact fin)
    cases v with
    | true => exact mk t1 T1 e4 e5 e9
    | false => exact mk { t1 with plain := false } ⟨T1.ris, T1.dm, T1.sz, T1.mok, T1.bd, T1.reach⟩ e4 e5 e9
  by_cases hp : t1.plain = true
  · first
      | exact wpAny_bind (wp_if_pos hp (someVal hx fun v => go v))
      | exact wp_if_pos hp (wpAny_bind (someVal hx fun v => go v))
  · first
      | exact wpAny_bind (wp_if_neg hp (wpAny_pure (go true)))
      | exact wp_if_neg hp (wpAny_bind (wpAny_pure (go true)))
end
end TxT
set_option Elab.async false
set_option linter.all false
set_option maxRecDepth 100000
set_option maxHeartbeats 2000000
namespace TxS
open PySem PySem.Spec PyProof.Rows L2
/-- the entry of a text -/
def Ent (w : World) (e : Int × Value) (x : Str) : Prop := ∃ t, e = (hashStr w x, Value.str x t)
def TxSet (w : World) (h : Heap) (a : Addr) (L : List Str) : Prop :=
  ∃ (o : Obj) (es : Array (Int × Value)) (ep : Nat) (t : SetTable) (ks : List Str), h.get? a = some o ∧ o.ExactSet ∧ o.data = .set es ep t ∧ Paired (Ent w) es.toList ks ∧ ks.Perm L ∧ L.Nodup ∧ es.size < scanBound ∧ t.fits es.size = true ∧
    Ris t.place.toList ∧ (w.params.followText "set-order" = true ∨ t.led = true)
theorem paired_perm {α β : Type} {F : α → β → Prop} {xs ys : List α} (p : ys.Perm xs) : ∀ {ks : List β}, Paired F xs ks → ∃ ls, Paired F ys ls ∧ ls.Perm ks := by
  induction p with
  | nil => exact fun h => ⟨_, h, .refl _⟩
  | cons x _ ih =>
    intro ks h
    cases h with
    | cons r t =>
      obtain ⟨ls, a, b⟩ := ih t
      exact ⟨_, .cons r a, b.cons _⟩
  | swap x y l =>
    intro ks h
    cases h with
    | cons r t => cases t with
      | cons r2 t2 => exact ⟨_, .cons r2 (.cons r t2), .swap _ _ _⟩
  | trans _ _ ih1 ih2 =>
    intro ks h
    obtain ⟨ls, a, b⟩ := ih2 h
    obtain ⟨ms, c, d⟩ := ih1 a
    exact ⟨ms, c, d.trans b⟩
theorem ent_mem {w : World} : ∀ {es : List (Int × Value)} {ks : List Str}, Paired (Ent w) es ks → ∀ e ∈ es, ∃ x ∈ ks, Ent w e x
  | _, _, .cons r t, e, he => by
    rcases List.mem_cons.mp he with rfl | he
    · exact ⟨_, List.mem_cons_self, r⟩
    · obtain ⟨x, h1, h2⟩ := ent_mem t e he
      exact ⟨x, List.mem_cons_of_mem _ h1, h2⟩
theorem mem_ent {w : World} : ∀ {es : List (Int × Value)} {ks : List Str}, Paired (Ent w) es ks → ∀ x ∈ ks, ∃ e ∈ es, Ent w e x
  | _, _, .cons r t, x, hx => by
    rcases List.mem_cons.mp hx with rfl | hx
    · exact ⟨_, List.mem_cons_self, r⟩
    · obtain ⟨e, h1, h2⟩ := mem_ent t x hx
      exact ⟨e, List.mem_cons_of_mem _ h1, h2⟩
theorem elems {P : Program} {w : World} {es : List (Int × Value)} {ks : List Str} (h : Paired (Ent w) es ks) : ElemsOf (PySem.strKind P w) es := fun e he => by
  obtain ⟨x, _, t, rfl⟩ := ent_mem h e he
  exact ⟨⟨x, strKind_is P w x t, rfl⟩, rfl⟩
section
variable {P : Program} {w : World} {A : Around} {E : Value → Shared → Prop} {s : Shared} {a : Addr} {L : List Str}
theorem TxSet.lt {h : Heap} (R : TxSet w h a L) : a < h.objs.size := let ⟨_, _, _, _, _, ho, _⟩ := R; Heap.lt_size ho
theorem TxSet.at {h h' : Heap} (R : TxSet w h a L) (k : ∀ o, h.get? a = some o → h'.get? a = some o) : TxSet w h' a L := let ⟨o, es, ep, t, ks, ho, r⟩ := R; ⟨o, es, ep, t, ks, k o ho, r⟩
theorem TxSet.typeIs (R : TxSet w s.heap a L) : s.TypeIs (.ref a) "set" := let ⟨o, _, _, _, _, ho, hx, _⟩ := R; ⟨o, ho, hx.1⟩
/-- the new entries are laid, the table perhaps grown -/
theorem tail_ok {g : Bool → Sem Unit} (hg : ∀ (b : Bool) (s₁ : Shared) (Q' : Unit → Shared → Prop), Q' () s₁ → wpAny (model P w) A (g b) Q' E s₁) {o : Obj} {es es1 : Array (Int × Value)} {ep : Nat} {t t2 : SetTable} {ks : List Str} {wd : Bool} {R : Option Bool → Shared → Prop}
    (ho : s.heap.get? a = some o) (hex : o.ExactSet) (hd : o.data = .set es ep t) (hp : Paired (Ent w) es1.toList ks) (pm0 : ks.Perm L) (nd : L.Nodup) (hb1 : es1.size < scanBound) (hf2 : t2.fits es1.size = true) (hr : Ris t2.place.toList) (hl : w.params.followText "set-order" = true ∨ t2.led = true)
    (hR : ∀ h', Heap.SameBut a s.heap h' → TxSet w h' a L → R (some true) { s with heap := h' }) :
    wpAny (model P w) A (do
        storeSet a es1 t2
        if (!wd && t2.tooFull) = true then do
            g (relayAll t2 es1 (SetTable.grown es1.size)).2.2
            storeSet a (relayAll t2 es1 (SetTable.grown es1.size)).1 (relayAll t2 es1 (SetTable.grown es1.size)).2.1
            pure (some true)
          else pure (some true)) R E s := by
  refine wpAny_bind (wpAny_storeSet_of ho hd ?_ (fits_of_scanBound hb1))
  have o1 := storeB_at' ho hd es1 t2; have sb1 := Heap.SameBut.update s.heap a (Obj.putSet es1 t2)
  split
  · have pm := relayAll_perm t2 es1 (SetTable.grown es1.size); have f3 := relayAll_fits t2 es1 (SetTable.grown es1.size); have r3 := relayAll_ris t2 es1 (SetTable.grown es1.size); have l3 := relayAll_led t2 es1 (SetTable.grown es1.size)
    generalize relayAll t2 es1 (SetTable.grown es1.size) = Z at pm f3 r3 l3 ⊢
    obtain ⟨es2, t3, gave⟩ := Z
    dsimp only at pm f3 r3 l3 ⊢
    have z2 : es2.size = es1.size := by rw [← Array.length_toList, pm.length_eq, Array.length_toList]
    have b2 : es2.size < scanBound := z2 ▸ hb1
    obtain ⟨ls, p2, q2⟩ := paired_perm pm hp
    refine wpAny_bind (hg _ _ _ (wpAny_bind (wpAny_storeSet_of o1 rfl (wpAny_pure (hR _ (sb1.trans (Heap.SameBut.update _ a _)) ?_)) (fits_of_scanBound b2))))
    exact ⟨_, es2, _, t3, ls, storeB_at' o1 rfl es2 t3, hex, rfl, p2, q2.trans pm0, nd, b2, f3, r3, hl.imp id fun z => l3 ▸ z⟩
  · exact wpAny_pure (hR _ sb1 ⟨_, es1, _, t2, ks, o1, hex, rfl, hp, pm0, nd, hb1, hf2, hr, hl⟩)
where storeB_at' {h : Heap} {a : Addr} {o : Obj} {es : Array (Int × Value)} {ep : Nat} {t : SetTable} (ho : h.get? a = some o) (hd : o.data = .set es ep t) (es' : Array (Int × Value)) (t' : SetTable) : (h.update a (Obj.putSet es' t')).get? a = some { o with data := .set es' (ep + 1) t' } :=
  L2.store_at (es' := es') (t' := t') ho hd
/-- what the set holds behind an add -/
def added (L : List Str) (k : Str) : List Str := if k ∈ L then L else L ++ [k]
theorem add_hashed {k : Str} {tk : Tok} {Q : Bool → Shared → Prop} (R : TxSet w s.heap a L) (room : L.length + 1 < scanBound) (hQ : ∀ h', Heap.SameBut a s.heap h' → TxSet w h' a (added L k) → Q (!decide (k ∈ L)) { s with heap := h' }) :
    wpAny (model P w) A (setAddHashed a (.str k tk) ((PySem.strKind P w).hash k)) Q E s := by
  obtain ⟨o, es, ep, t, ks, ho, hex, hd, hp, pk, nd, hb, hf, hr, hl⟩ := R
  have hkey : (PySem.strKind P w).is k (.str k tk) = true := strKind_is P w k tk
  have hsc : (Value.str k tk).scannable = true := rfl
  have hel : ElemsOf (PySem.strKind P w) es.toList := elems hp
  have is_iff : ∀ (e : Int × Value) (x : Str), Ent w e x → ((PySem.strKind P w).is k e.2 = true ↔ x = k) := fun e x hx => by
    obtain ⟨tx, rfl⟩ := hx
    show (x == k) = true ↔ x = k
    exact beq_iff_eq
  unfold setAddHashed setAddHashedIn
  refine wpAny_holding (wpAny_bind (wpAny_setState_of ho hd hf ?_))
  dsimp only
  rw [byScan_of hsc hb hel]
  simp only [↓reduceIte]
  unfold setAddByScan
  refine wpAny_bind (wpAny_bind (wpAny_rule (wpAny_bind (wpAny_setScan_of hkey ho hd hf hel ?_))))
  cases hfi : List.findIdx? (fun e => (PySem.strKind P w).is k e.2) es.toList with
  | some j =>
    dsimp only
    obtain ⟨hj, pj, _⟩ := List.findIdx?_eq_some_iff_getElem.mp hfi
    obtain ⟨x, hx, ex⟩ := ent_mem hp _ (List.getElem_mem hj)
    have hk : k ∈ L := by
      rw [← (is_iff _ x ex).mp pj]
      exact pk.mem_iff.mp hx
    have q := hQ s.heap (Heap.SameBut.refl a s.heap) (by unfold added; rw [if_pos hk]; exact ⟨o, es, ep, t, ks, ho, hex, hd, hp, pk, nd, hb, hf, hr, hl⟩)
    rw [decide_eq_true hk] at q
    exact wpAny_pure (wpAny_pure q)
  | none =>
    dsimp only
    have hk : k ∉ L := fun z => by
      obtain ⟨e, he, ex⟩ := mem_ent hp k (pk.mem_iff.mpr z)
      have c := List.findIdx?_eq_none_iff.mp hfi e he
      rw [(is_iff e k ex).mpr rfl] at c
      cases c
    have hgw : ∀ (b : Bool) {s₁ : Shared} {Q' : Unit → Shared → Prop}, Q' () s₁ → wpAny (model P w) A (match b with | true => rule "set.scan.the-table-gave-way" | false => pure ()) Q' E s₁ := fun b s₁ Q' q => by cases b <;> first | exact wpAny_pure q | exact wpAny_rule q
    have pm := layNew_perm t es ((PySem.strKind P w).hash k) (.str k tk); have f1 := layNew_fits t es ((PySem.strKind P w).hash k) (.str k tk)
    have r1 := layNew_ris t es ((PySem.strKind P w).hash k) (.str k tk) hr; have l1 := layNew_led t es ((PySem.strKind P w).hash k) (.str k tk)
    generalize layNew t es ((PySem.strKind P w).hash k) (.str k tk) = Z at pm f1 r1 l1 ⊢
    obtain ⟨es1, t1, wasDummy, gave⟩ := Z
    dsimp only at pm f1 r1 l1 ⊢
    rw [Array.toList_push] at pm
    have pc : es1.toList.Perm (((PySem.strKind P w).hash k, Value.str k tk) :: es.toList) := pm.trans (List.perm_append_singleton _ _)
    obtain ⟨ls, p1, q1⟩ := paired_perm pc (Paired.cons (show Ent w ((PySem.strKind P w).hash k, Value.str k tk) k from ⟨tk, rfl⟩) hp)
    have qL : ls.Perm (L ++ [k]) := q1.trans ((pk.cons k).trans (List.perm_append_singleton _ _).symm)
    have ndL : (L ++ [k]).Nodup := (List.perm_append_singleton k L).nodup_iff.mpr (List.nodup_cons.mpr ⟨hk, nd⟩)
    have esz : es.size = L.length := by rw [← Array.length_toList, Paired.length hp, pk.length_eq]
    have z1 : es1.size = L.length + 1 := by rw [← Array.length_toList, pc.length_eq, List.length_cons, Array.length_toList, esz]
    have b1 : es1.size < scanBound := z1 ▸ room
    have hled : w.params.followText "set-order" = true ∨ t1.led = true := hl.imp id fun z => l1 ▸ z
    have fin : ∀ h', Heap.SameBut a s.heap h' → TxSet w h' a (L ++ [k]) → Q true { s with heap := h' } := fun h' sb r => by
      have q := hQ h' sb (by unfold added; rw [if_neg hk]; exact r)
      rw [decide_eq_false hk] at q
      exact q
    refine wpAny_bind (hgw _ ?_)
    split
    · refine wpAny_bind ?_
      rw [hashByValue_scannable 8 hsc]
      refine wpAny_pure (tail_ok ?_ ho hex hd p1 qL ndL b1 ?_ ?_ ?_ ?_)
      · intro b s₁ Q' q; cases b <;> first | exact wpAny_pure q | exact wpAny_rule q
      · first | (split <;> first | exact f1 | exact SetTable.fits_plain_off f1) | exact f1
      · first | (split <;> exact r1) | exact r1
      · first | (split <;> exact hled) | exact hled
      · intro h' sb r; dsimp only; exact wpAny_pure (fin h' sb r)
    · refine wpAny_bind (wpAny_pure ?_)
      simp only [↓reduceIte]
      refine tail_ok ?_ ho hex hd p1 qL ndL b1 f1 r1 hled ?_
      · intro b s₁ Q' q; cases b <;> first | exact wpAny_pure q | exact wpAny_rule q
      · intro h' sb r; dsimp only; exact wpAny_pure (fin h' sb r)
theorem add_ok {k : Str} {tk : Tok} {Q : Value → Shared → Prop} (R : TxSet w s.heap a L) (room : L.length + 1 < scanBound) (hQ : ∀ h' tk', Heap.SameBut a s.heap h' → TxSet w h' a (added L k) → Q .none { s with heap := h', toks := tk' }) :
    wpAny (model P w) A (call (.builtin "set.add") [.ref a, .str k tk]) Q E s := by
  refine wpAny_call_entry F.slot_set_add R.typeIs F.entry_set_add ?_ (F.args_set_add_2 _ _)
  unfold Builtin.«set.add» Builtin.Frozenset.oneOther
  simp only [List.isEmpty_nil, bind_assoc]
  unfold Builtin.Frozenset.addrOf setAdd
  refine wpAny_bind (wpAny_pure ?_); try dsimp only
  refine wpAny_bind (wpAny_pure ?_); try dsimp only
  refine wpAny_bind (wpAny_holding (wpAny_bind ((PySem.strKind P w).pyHash (strKind_is P w k tk) ?_)))
  refine add_hashed R room fun h' sb r => ?_
  show wpAny _ _ (ret Value.none) _ _ _
  exact wpAny_pure ⟨_, rfl, hQ h' _ sb r⟩
theorem fresh {h : Heap} (w : World) : TxSet w (h.push { cls := .type "set", dict := none, data := .set #[] 0 (.fresh 0 0 (!w.params.followText "set-order")) }) h.objs.size [] :=
  ⟨_, #[], 0, _, [], Heap.get?_push_size _ rfl, ⟨rfl, rfl, rfl⟩, rfl, .nil, .refl _, .nil, by decide, by rfl, List.Pairwise.nil, by
    show _ ∨ (!w.params.followText "set-order") = true
    cases w.params.followText "set-order" <;> simp⟩
theorem paired_strs {w : World} : ∀ {es : List (Int × Value)} {ks : List Str}, Paired (Ent w) es ks → StrsAre (es.map (·.2)) ks
  | _, _, .nil => .nil
  | _, _, .cons r t => by
    obtain ⟨tk, rfl⟩ := r
    exact .cons _ tk (paired_strs t)
theorem strs_perm : ∀ {us vs : List Value} (p : us.Perm vs) {ks : List Str}, StrsAre vs ks → ∃ ls, StrsAre us ls ∧ ls.Perm ks := by
  intro us vs p
  induction p with
  | nil => exact fun h => ⟨_, h, .refl _⟩
  | cons x _ ih =>
    intro ks h
    cases h with
    | cons n t r =>
      obtain ⟨ls, a, b⟩ := ih r
      exact ⟨_, .cons n t a, b.cons _⟩
  | swap x y l =>
    intro ks h
    cases h with
    | cons n t r => cases r with
      | cons n2 t2 r2 => exact ⟨_, .cons n2 t2 (.cons n t r2), .swap _ _ _⟩
  | trans _ _ ih1 ih2 =>
    intro ks h
    obtain ⟨ls, a, b⟩ := ih2 h
    obtain ⟨ms, c, d⟩ := ih1 a
    exact ⟨ms, c, d.trans b⟩
/-- sorted(of a set) -/
theorem sorted_ok {Q : Value → Shared → Prop} (R : TxSet w s.heap a L) (hh : A.handled = none) (h64 : L.length < 64)
    (hQ : ∀ s' p (out : Array Value) (c : Nat) (ys : List Str), (∀ b o, s.heap.get? b = some o → s'.heap.get? b = some o) → s'.gens = s.gens → s'.os = s.os → s.heap.objs.size ≤ p → s'.heap.get? p = some (seqObj "list" out c) → StrsAre out.toList ys → ys.Perm L → sortedS ys = true → Q (.ref p) s') :
    wpAny (model P w) A (call (.builtin "sorted") [.ref a]) Q E s := by
  obtain ⟨o, es, ep, t, ks, ho, hex, hd, hp, pk, nd, hb, hf, hr, hl⟩ := R
  refine Calls.call_function_entry kind_sorted plain_sorted entry_sorted (args_sorted1 _) ?_
  unfold Builtin.«sorted»
  refine wpAny_bind (m := checkCount "sorted" 1 1 _) (wpAny_pure (wpAny_bind (collect_set (A := A.in1) hh ⟨o, ho, hex.1, hd⟩ hf hb hr hl fun s1 vs k1 hz g1 o1 pm => ?_)))
  obtain ⟨ls, hS, q⟩ := strs_perm pm (paired_strs hp)
  have lL : ls.Perm L := q.trans pk
  have lv : vs.length = L.length := by rw [hS.length, lL.length_eq]
  refine wpAny_bind (wpAny_newList ?_ (by rw [lv, sizeLine_eq]; omega))
  have hoL : (s1.heap.push (seqObj "list" vs.toArray 0)).get? s1.heap.objs.size = some (seqObj "list" vs.toArray 0) := Heap.get?_push_size _ rfl
  refine wpAny_bind (wpAny_holding (wpAny_call_entry slot_list_sort ⟨_, hoL, rfl⟩ entry_list_sort (list_sort_treeKAny strKind_oneLt hoL hS.keysOf (fun v₁ v₂ rest e => keyKind_strs (by rw [← e]; exact hS)) (by rw [lv, sizeLine_eq]; omega) fun st' hpm hs => ⟨_, rfl, ?_⟩) (args_list_sort _)))
  obtain ⟨ys, y1, y2, y3⟩ := sorted_out_str hS hpm hs
  obtain ⟨c, hc⟩ := sortedHeap_at (vs := vs) (out := (arrOf st').map (·.2)) hoL
  refine wpAny_pure ⟨_, rfl, hQ _ s1.heap.objs.size _ c ys (fun b u e => ?_) g1 o1 hz hc y1 (y2.trans lL) y3⟩
  have e1 := k1 b u e
  have hlt := Heap.lt_size e1
  show (sortedHeap (s1.heap.push (seqObj "list" vs.toArray 0)) s1.heap.objs.size vs _).get? b = some u
  rw [sortedHeap_old (Nat.ne_of_lt hlt) (by rw [size_push']; exact Nat.lt_succ_of_lt hlt)]
  exact Heap.get?_push_of_some _ e1
end
def SetX (w : World) (a : Addr) (L : List Str) : HO := .ext fun h => TxSet w h a L
theorem setX_new {w : World} {P : Program} {H : Hp} {h : Heap} {a : Addr} {L : List Str} (R : TxSet w h a L) : ObjOk P w H h a (SetX w a L) := let ⟨o, _, _, _, _, ho, _⟩ := id R; ⟨R, ⟨o, ho⟩, fun h1 h2 p k => p.at k⟩
section
variable {X : Cx}
theorem setX_get {pins : List (Addr × Obj)} {σ : L2.St} {H : Hp} {s : Shared} {a : Addr} {L : List Str} (I : Inv X pins σ H s) (ha : H a = some (SetX X.w a L)) : TxSet X.w s.heap a L := (I.hok a _ ha).1
/-- sorted(set), fewer than 64 texts -/
def rSortX (w : World) : List V → Hp → VK → Prop := fun vs H Q => ∃ (a : Addr) (L : List Str), vs = [.ref a] ∧ H a = some (SetX w a L) ∧ L.length < 64 ∧ ∀ (ys : List Str) (p : Addr), ys.Perm L → sortedS ys = true → H p = none → Q (.ref p) (upd H p (.lst (ys.map V.str)))
theorem cr_sortX (hc : X.calm = true) : CallR X (.builtin "sorted") (rSortX X.w) := by
  intro pins s σ H vs us Q I r h
  obtain ⟨a, L, rfl, ha, h64, q⟩ := h
  rw [Vals.ref1 r]
  refine sorted_ok (setX_get I ha) (I.ok.hd hc) h64 fun s' p out c ys k g o hp hg hS pm so => ?_
  have hlen : (ys.map V.str).length ≤ sizeLine := by rw [List.length_map, pm.length_eq, sizeLine_eq]; omega
  have hn : H p = none := I.hok.fresh hp
  have J : Inv X pins σ (upd H p (.lst (ys.map V.str))) s' := by
    have z : s' = { s with heap := s'.heap, gens := s'.gens, drawn := s'.drawn, toks := s'.toks } := by cases s'; cases s; cases o; rfl
    rw [z]
    exact I.call (ch := []) (Un.laid k hp hn) (I.hok.laid k hp ⟨hlen, out.toList, c, vals_of_strs hS, hg⟩) (by rw [g]; exact I.bare) fun _ z => nomatch z
  exact ⟨.ref p, _, J, rfl, q ys p pm so hn⟩
/-- an item goes to the new set -/
def emX (w : World) (te : TE) (D : Addr) : L2.St → Hp → (Hp → Prop) → Prop := fun σ H Nx => te σ H fun y H1 => ∃ (x : Str) (L : List Str), y = .str x ∧ H1 D = some (SetX w D L) ∧ L.length + 1 < scanBound ∧ Nx (upd H1 D (SetX w D (added L x)))
theorem emX_ok {B : Cx} {D : Addr} {elt : Expr} {gens : List Comprehension} {scope : Scope} {pos : Pos} {te : TE} (b1 : B.xe = GC.NoE) (he : PE B elt te) : GC.EmOk B (.ref D) (.SetComp elt gens scope pos) (emX B.w te D) := by
  intro pins s σ H Nx I q
  have r := he.run pins s σ H _ I q
  rw [b1] at r
  refine thnF r fun x s1 h => ?_
  obtain ⟨y, H1, I1, r1, z, L, rfl, hD, room, nx⟩ := h
  obtain ⟨t, rfl⟩ := r1
  refine add_ok (setX_get I1 hD) room fun h' tk' sb R => ⟨_, I1.write (e := D) (t' := tk') (by rw [hD]; trivial) (.inl rfl) (fun b u hb hu => (sb.2 b hb).trans hu) ?_ (setX_new R), nx⟩
  obtain ⟨o, _, _, _, _, ho, _⟩ := id R
  exact ⟨o, ho⟩
theorem new_set {P : Program} {w : World} : GC.NewOk P w (newSet (.type "set")) fun D => SetX w D [] := fun A E s Q h => PpSet.newSet_ok (h _ fun H' _ => setX_new (fresh w))
/-- a set comprehension of texts -/
theorem pe_scX {elt tg iter : Expr} {ifs : List Expr} {gens : List Comprehension} {scope : Scope} {own : List (Str × Nat)} {pos : Pos} {wi : TI} {g : TG} {tt : TT} {te : TE} {cs : List GC.Cl} (hc : X.calm = true) (hN : X.N.Nodup) (hi : PI X tg iter wi) (ok : BlkOk X.N X.env.scope scope own)
    (hg : GC.Blk X scope fun B => PG B tg g) (ht : GC.Blk X scope fun B => PTs B ifs tt) (r : GC.Cls X scope gens cs) (nst : GC.Nested (⟨tg, iter, ifs, wi, g, tt, own.map (·.2)⟩ :: cs)) (he : GC.Blk X scope fun B => PE B elt te) (hs : ∀ env x, foldedSetIterable iter env x = pure x := by intro _ _; rfl) :
    PE X (.SetComp elt (⟨tg, iter, ifs, 0⟩ :: gens) scope pos) (GC.tCo (fun D => SetX X.w D []) ⟨tg, iter, ifs, wi, g, tt, own.map (·.2)⟩ cs (emX X.w te)) :=
  GC.pe_co rfl (.s ..) new_set hc hN hi ok hg ht r nst (fun D s H C cl fp => emX_ok rfl (he s H C cl fp)) hs
end
end TxS
set_option Elab.async false
set_option linter.all false
set_option maxRecDepth 100000
set_option maxHeartbeats 4000000
set_option Elab.async false
set_option linter.all false
set_option maxRecDepth 100000
set_option maxHeartbeats 4000000
set_option Elab.async false
set_option linter.all false
set_option maxRecDepth 100000
set_option maxHeartbeats 2000000
namespace DTp
open PySem PySem.Spec PySem.W PyProof.Rows L2
def eqTx : Value → Value → Bool
  | .str x _, .str y _ => decide (x = y)
  | _, _ => false
/-- the entry's value is that of the other dict -/
def hitT (kb : List (List Key × Addr × Value)) (x : List Key × Addr × Value) : Bool := match atKey kb x.1 with
  | some p => eqTx x.2.2 p.2
  | none => false
section
variable {prog : Program} {w : World} {A : Around} {E : Value → Shared → Prop} {s : Shared}
abbrev TkK (prog : Program) (w : World) := tupleKind (mixKind prog w)
theorem range_next {n i x : Nat} {rest : List Nat} (e : x :: rest = List.range' i (n - i)) : x = i ∧ i < n ∧ rest = List.range' (i + 1) (n - (i + 1)) := by
  rcases Nat.lt_or_ge i n with h | h
  · have z : n - i = n - (i + 1) + 1 := by omega
    rw [z, List.range'_succ] at e
    injection e with e1 e2
    exact ⟨e1, h, e2⟩
  · rw [Nat.sub_eq_zero_of_le h] at e
    cases e
theorem same_dT {nm : String} {a b : Addr} {ka kb : List (List Key × Addr × Value)} {Q : Bool → Shared → Prop} (hu : A.units < cLine) (ha : (a == sysModules) = false) (hb : (b == sysModules) = false) (da : s.heap.DictOfH (TkK prog w) a ka) (db : s.heap.DictOfH (TkK prog w) b kb)
    (ta : ∀ x ∈ ka, ∃ y t, x.2.2 = .str y t) (tb : ∀ x ∈ kb, ∃ y t, x.2.2 = .str y t) (h : Q (ka.length == kb.length && ka.all (hitT kb)) s) : wpAny (model prog w) A (Builtin.Dict.samePairs nm a b) Q E s := by
  obtain ⟨oa, es, ep, hoa, _, hda, hea, hia, hna⟩ := da
  obtain ⟨ob, es', ep', hob, _, hdb, heb, hib, hnb⟩ := db
  have la : es.size = ka.length := size_of_entries hea
  have lb : es'.size = kb.length := size_of_entries heb
  unfold Builtin.Dict.samePairs Builtin.Dict.showsAll
  rw [if_neg (show ¬ (a == sysModules) = true by rw [ha]; exact Bool.false_ne_true), if_neg (show ¬ (b == sysModules) = true by rw [hb]; exact Bool.false_ne_true)]
  refine wpAny_bind (wpAny_pure (wpAny_bind (wpAny_pure (wpAny_bind (wpAny_dictEntries hoa hda ?_)))))
  dsimp only
  refine wpAny_bind (wpAny_dictEntries hob hdb ?_)
  rcases Classical.em (ka.length = kb.length) with hsz | hsz
  · have hz : es.size = es'.size := by rw [la, lb, hsz]
    rw [if_neg (by rw [hz]; simp)]
    have h' : Q (ka.all (hitT kb)) s := by simpa [hsz] using h
    refine wpAny_bind (wpAny_dictEpoch hoa hda (wpAny_bind ?_))
    rw [Std.Legacy.Range.forIn_eq_forIn_range']
    simp only [Std.Legacy.Range.size, Nat.sub_zero, Nat.add_sub_cancel, Nat.div_one]
    refine wpAny_forIn_list _ (fun rest q s' => s' = s ∧ q = (none, ()) ∧ ∃ i, rest = List.range' i (es.size - i) ∧ i ≤ es.size ∧ Q ((ka.drop i).all (hitT kb)) s) _ ?_ ?_ _ _ ⟨rfl, rfl, 0, by simp, Nat.zero_le _, h'⟩
    · rintro x rest q s' ⟨rfl, rfl, i, hr, hi, hq⟩
      obtain ⟨rfl, hlt, hrest⟩ := range_next hr
      refine wpAny_bind (wpAny_dictEntries hoa hda ?_)
      have hk : x < ka.length := la ▸ hlt
      have en : es[x]? = some (entryOfKey (TkK prog w) ka[x]) := by rw [entry_at hea, List.getElem?_eq_getElem hk]; rfl
      have hd : ka.drop x = ka[x] :: ka.drop (x + 1) := List.drop_eq_getElem_cons hk
      rw [hd, List.all_cons] at hq
      rw [en]
      generalize hx : ka[x] = e at hq
      have me : e ∈ ka := hx ▸ List.getElem_mem hk
      obtain ⟨y, ty, ey⟩ := ta e me
      show wpAny _ _ (holding [Value.ref e.2.1, e.2.2] _ >>= _) _ _ _
      refine wpAny_bind (wpAny_holding ?_)
      show wpAny _ _ (dictFind b (.ref e.2.1) ((TkK prog w).hash e.1) >>= _) _ _ _
      refine wpAny_bind (wpAny_dictFind_heap (knd := TkK prog w) hu (hia e me) hob hdb heb hib hnb (fun hno => ?_) fun j p hj => ?_)
      · have hm : hitT kb e = false := by unfold hitT; rw [atKey_none_of_get hno]
        rw [hm, Bool.false_and] at hq
        refine wpAny_pure ?_
        show wpAny _ _ (if (!false) = true then _ else _) _ _ _
        rw [if_pos (by decide)]
        exact wpAny_pure (wpAny_pure hq)
      · refine wpAny_bind (wpAny_dictEntries hob hdb ?_)
        rw [entry_at heb, hj]
        obtain ⟨z, tz, ez⟩ := tb _ (List.mem_of_getElem? hj)
        have hm : hitT kb e = decide (y = z) := by
          unfold hitT
          rw [atKey_of_get hnb hj, ey]
          show eqTx (.str y ty) p.2 = _
          rw [show p.2 = Value.str z tz from ez]
          rfl
        rw [hm] at hq
        show wpAny _ _ (holding [p.2] (eqBool e.2.2 p.2)) _ _ _
        rw [ey, show p.2 = Value.str z tz from ez]
        refine wpAny_holding (wpAny_eqBool_str ?_)
        cases hyz : decide (y = z) with
        | false =>
          rw [hyz, Bool.false_and] at hq
          show wpAny _ _ (if (!false) = true then _ else _) _ _ _
          rw [if_pos (by decide)]
          exact wpAny_pure (wpAny_pure hq)
        | true =>
          rw [hyz, Bool.true_and] at hq
          show wpAny _ _ (if (!true) = true then _ else _) _ _ _
          rw [if_neg (by decide)]
          refine wpAny_bind (wpAny_dictEpoch hoa hda ?_)
          rw [if_neg (by simp)]
          exact wpAny_pure ⟨rfl, rfl, x + 1, hrest, hlt, hq⟩
    · rintro q s' ⟨rfl, rfl, i, hr, hi, hq⟩
      have hin : i = es.size := by
        rcases Nat.lt_or_ge i es.size with k | k
        · have z : es.size - i = es.size - (i + 1) + 1 := by omega
          rw [z, List.range'_succ] at hr
          cases hr
        · omega
      rw [hin, la, List.drop_length] at hq
      exact wpAny_pure hq
  · have hz : ¬ es.size = es'.size := by rw [la, lb]; exact hsz
    rw [if_pos (by simpa using hz)]
    have hf : (ka.length == kb.length) = false := by simpa using hsz
    rw [hf, Bool.false_and] at h
    exact wpAny_bind (wpAny_rule (wpAny_pure h))
theorem eq_dT {a b : Addr} {ka kb : List (List Key × Addr × Value)} {Q : Value → Shared → Prop} (hu : A.units + 1 < cLine) (ha : (a == sysModules) = false) (hb : (b == sysModules) = false) (da : s.heap.DictOfH (TkK prog w) a ka) (db : s.heap.DictOfH (TkK prog w) b kb)
    (ta : ∀ x ∈ ka, ∃ y t, x.2.2 = .str y t) (tb : ∀ x ∈ kb, ∃ y t, x.2.2 = .str y t) (h : Q (.bool (ka.length == kb.length && ka.all (hitT kb))) s) : wpAny (model prog w) A (compareOp .Eq (.ref a) (.ref b)) Q E s := by
  refine wpAny_richCompare_same_room (op := .Eq) da.typeIs db.typeIs PySem.F.slot_dict_eq (wpAny_call_entry PySem.F.slot_dict_eq da.typeIs PySem.F.entry_dict_eq ?_ (PySem.F.args_dict_eq_2 _ _)) (by omega)
  refine wpAny_bind (m := Builtin.Dict.dictSlotArgs "__eq__" ⟨[.ref a, .ref b], []⟩) ?_
  unfold Builtin.Dict.dictSlotArgs
  refine wpAny_bind (wpAny_notOrdered_dict da.typeIs (wpAny_pure ?_))
  refine wpAny_bind (wpAny_isInstance (T := "dict") db.typeIs PySem.F.sub_dict_dict ?_)
  simp only [Bool.not_true, Bool.false_eq_true, if_false]
  refine wpAny_bind (wpAny_pure (wpAny_bind (wpAny_pure (wpAny_bind (same_dT hu ha hb da db ta tb (wpAny_pure ⟨_, rfl, ?_, ?_⟩))))))
  · exact fun x => nomatch x
  · simpa using h
end
/-- whether two dicts with texts as values are the same, whatever the order -/
def sameT (ks ls : List (List Key × V)) : Bool := ks.length == ls.length && ks.all fun p => decide (valV ls p.1 = some p.2)
def TxV (kvs : List (List Key × V)) : Prop := ∀ p ∈ kvs, ∃ x, p.2 = .str x
section
variable {X : Cx}
theorem kt_txt {H : Hp} : ∀ {kvs : List (List Key × V)} {xs : List (List Key × Addr × Value)}, KT H kvs xs → TxV kvs → ∀ x ∈ xs, ∃ y t, x.2.2 = .str y t
  | _, _, .cons (a := p) r t, h, x, hx => by
    rcases List.mem_cons.mp hx with rfl | hx
    · obtain ⟨y, e⟩ := h p List.mem_cons_self
      have q := r.2.2
      rw [e] at q
      obtain ⟨t, e⟩ := q
      exact ⟨y, t, e⟩
    · exact kt_txt t (fun q hq => h q (List.mem_cons_of_mem _ hq)) x hx
theorem hit_all {H : Hp} {ls : List (List Key × V)} {ys : List (List Key × Addr × Value)} (rl : KT H ls ys) (hl : TxV ls) : ∀ {ks : List (List Key × V)} {xs : List (List Key × Addr × Value)}, KT H ks xs → TxV ks → xs.all (hitT ys) = ks.all fun p => decide (valV ls p.1 = some p.2)
  | _, _, .nil, _ => rfl
  | _, _, .cons (a := p) (b := q) r t, h => by
    rw [List.all_cons, List.all_cons, hit_all rl hl t fun q hq => h q (List.mem_cons_of_mem _ hq)]
    congr 1
    obtain ⟨x, ex⟩ := h p List.mem_cons_self
    have r2 := r.2.2
    rw [ex] at r2
    obtain ⟨tx, eq⟩ := r2
    have rv := rl.val p.1
    unfold hitT
    rw [← r.1, ex]
    cases ea : atKey ys p.1 with
    | none =>
      rw [ea] at rv
      cases ev : valV ls p.1 with
      | none => simp
      | some v => rw [ev] at rv; exact rv.elim
    | some a =>
      rw [ea] at rv
      cases ev : valV ls p.1 with
      | none => rw [ev] at rv; exact rv.elim
      | some v =>
        rw [ev] at rv
        have mv : ∃ p' ∈ ls, p'.2 = v := by
          unfold valV at ev
          obtain ⟨p', h1, h2⟩ := Option.map_eq_some_iff.mp ev
          exact ⟨p', List.mem_of_find?_eq_some h1, h2⟩
        obtain ⟨p', m1, m2⟩ := mv
        obtain ⟨y, ey⟩ := hl p' m1
        rw [m2] at ey
        subst ey
        obtain ⟨ty, et⟩ := rv
        have et : a.2 = Value.str y ty := et
        show eqTx q.2.2 a.2 = _
        rw [eq, et]
        show decide (x = y) = _
        by_cases e : x = y
        · simp [e]
        · have e' : ¬ y = x := fun z => e z.symm
          simp [e, e']
def rEqT (neg : Bool) : R2 := fun x y H Q => ∃ a b ks ls, x = .ref a ∧ y = .ref b ∧ Rd H a (.dT ks) ∧ Rd H b (.dT ls) ∧ TxV ks ∧ TxV ls ∧ Q (.bl (if neg = true then !sameT ks ls else sameT ks ls)) H
theorem sameT_eq {H : Hp} {ks ls : List (List Key × V)} {xs ys : List (List Key × Addr × Value)} (rk : KT H ks xs) (rl : KT H ls ys) (hk : TxV ks) (hl : TxV ls) : (xs.length == ys.length && xs.all (hitT ys)) = sameT ks ls := by
  unfold sameT
  rw [hit_all rl hl rk hk, ← Paired.length rk, ← Paired.length rl]
theorem op_eqT (hu : X.A.units + 1 < cLine) : OpR X (compareOp .Eq) (rEqT false) := by
  intro pins s σ H x y v u Q I rx ry h
  obtain ⟨a, b, ks, ls, rfl, rfl, ea, eb, hk, hl, q⟩ := h
  cases rx; cases ry
  obtain ⟨_, ya, va, ra, da⟩ := dt_rd I.hok ea
  obtain ⟨_, yb, vb, rb, db⟩ := dt_rd I.hok eb
  refine eq_dT hu ya yb da db (kt_txt ra hk) (kt_txt rb hl) ?_
  rw [sameT_eq ra rb hk hl]
  exact ⟨.bl (sameT ks ls), H, I, rfl, q⟩
end
end DTp
set_option Elab.async false
set_option linter.all false
set_option maxRecDepth 100000
set_option maxHeartbeats 2000000
namespace SmR
open PySem PySem.Spec PySem.W PyProof.Rows L2
section
variable {X : Cx}
/-- the signs of a text, each a text -/
def signs (z : Str) : List Str := z.cps.toList.map fun c => ⟨#[c]⟩
theorem vals_signs {z : Str} : ∀ {us : List Value} {cs : List Nat}, us.length = cs.length → (∀ (j : Nat) v, us[j]? = some v → ∃ c u, cs[j]? = some c ∧ v = Value.str ⟨#[c]⟩ u) → Vals ((cs.map fun c => (⟨#[c]⟩ : Str)).map V.str) us
  | [], [], _, _ => .nil
  | [], _ :: _, h, _ => by cases h
  | _ :: _, [], h, _ => by cases h
  | u :: us, c :: cs, h, k => by
    obtain ⟨c', t, e1, e2⟩ := k 0 u rfl
    cases e1
    exact .cons ⟨t, e2⟩ (vals_signs (z := z) (Nat.succ.inj h) fun j v e => k (j + 1) v e)
theorem cr_listStr (hc : X.calm = true) : CallR X (.type "list") (fun vs H Q => ∃ z : Str, vs = [.str z] ∧ z.length ≤ 1000 ∧ ∀ p, H p = none → Q (.ref p) (upd H p (.lst ((signs z).map V.str)))) := by
  intro pins s σ H vs us Q I r h
  obtain ⟨z, rfl, few, q⟩ := h
  obtain ⟨u, rfl, t, rfl⟩ := vals1 r
  have hz : z.cps.size ≤ sizeLine := by
    rw [sizeLine_eq]
    exact Nat.le_trans few (by decide)
  refine call_list_str (hn := hz) (I.ok.hd hc) z t fun h' tk acc c hk hS hacc => ?_
  have hn : H s.heap.objs.size = none := I.hok.fresh (Nat.le_refl _)
  have lz : ((signs z).map V.str).length = z.cps.size := by unfold signs; rw [List.length_map, List.length_map, Array.length_toList]
  refine ⟨.ref s.heap.objs.size, _, I.laid (o := .lst ((signs z).map V.str)) (t' := tk) (fun b o e => hk b o e) (Nat.le_refl _) ⟨by rw [lz]; exact hz, acc.toList, c, ?_, by rw [Array.toArray_toList]; exact hS⟩, rfl, q _ hn⟩
  refine vals_signs (z := z) (by rw [Array.length_toList, Array.length_toList]; exact hacc.1) fun j v e => ?_
  obtain ⟨cc, u, e1, e2⟩ := hacc.2 j v (by rw [← Array.getElem?_toList]; exact e)
  exact ⟨cc, u, by rw [Array.getElem?_toList]; exact e1, e2⟩
end
end SmR
set_option Elab.async false
set_option maxRecDepth 100000
namespace KT
open PySem L2 PyProof.Rows
/-- the built-in names that the law leaves alone -/
structure Blt (mg : Str → Option Value) : Prop where
  int : mg "int" = none
  max : mg "max" = none
  min : mg "min" = none
  sum : mg "sum" = none
  len : mg "len" = none
  range : mg "range" = none
/-- a def of the text as its callers know it -/
structure Cee (P : Program) (w : World) (K : PySem.W.Frag) (mg : Str → Option Value) (base : Heap) (k : Nat) (x : Str) (ps : List Str) (sp : Sp) : Prop where
  ex : ∃ (f : Addr) (fd : FuncData), FnOk P w K mg base CX0 k f fd ps sp ∧ mg x = some (.ref f) ∧ PySem.W.keepIn K (.ref f) = true ∧ Binds K fd ps []
section
variable {X : Cx} {k j : Nat} {x : Str} {ps : List Str} {sp : Sp} {p pos : Pos} {e : Expr} {es : List Expr} {t : TA}
theorem pe_c (C : Cee X.prog X.w X.K X.mg X.base k x ps sp) (hr : Room j X.A) (hg : Gl X x) (ha : PA X (e :: es) t) (hkj : k ≤ j := by decide)
    (hdb : (x == ("__debug__" : Str)) = false := by decide) (he : starEach (e :: es) X.env = (false, eval e X.env) :: starEach es X.env := by rfl) (hpl : (backTo pos (starEach es X.env)).any (·.1) = false := by rfl) :
    PE X (.Call (.Name x p) (e :: es) [] pos) (tCall sp [] E0 t) := by
  obtain ⟨f, fd, F, m, kp, b⟩ := C.ex
  exact pe_call F (hr.mono hkj) hg m kp b .nil pass0 ha hdb he hpl
theorem pe_c0 (C : Cee X.prog X.w X.K X.mg X.base k x ps sp) (hr : Room j X.A) (hg : Gl X x) (hkj : k ≤ j := by decide)
    (hdb : (x == ("__debug__" : Str)) = false := by decide) : PE X (.Call (.Name x p) [] [] pos) (tCall sp [] E0 tNil) := by
  obtain ⟨f, fd, F, m, kp, b⟩ := C.ex
  exact pe_call0 F (hr.mono hkj) hg m kp b .nil pass0 hdb
/-- ** of an int of any size to a written power -/
theorem op_powW : OpR X (binaryOp .Pow) (rI (fun i j => 0 ≤ j ∧ (Builtin.Int.intBits i : Int) * j ≤ 2 ^ 27) fun i j => .int (i ^ j.toNat)) := opI fun _ _ _ _ _ _ _ hc q => pow_int hc.1 hc.2 q
end
def PurseAt (H : Hp) (p : Addr) (B : Int) : Prop := ∃ a b c d : Int, H p = some (.lst [.int a, .int b, .int c, .int d]) ∧ 0 ≤ b ∧ b < 2147483629 ∧ 0 ≤ c ∧ c ≤ B
/-- all but what stands at p is as it was -/
def But (p : Addr) (H H' : Hp) : Prop := ∀ b o, b ≠ p → H b = some o → H' b = some o
theorem But.refl (p : Addr) (H : Hp) : But p H H := fun _ _ _ h => h
theorem But.trans {p : Addr} {H H1 H2 : Hp} (a : But p H H1) (b : But p H1 H2) : But p H H2 := fun c o n h => b c o n (a c o n h)
theorem But.upd {p : Addr} {H H1 : Hp} {o : HO} (a : But p H H1) : But p H (upd H1 p o) := fun c u n h => by
  rw [upd_ne n]
  exact a c u n h
theorem But.new {p q : Addr} {H H1 : Hp} {o : HO} (a : But p H H1) (hq : H1 q = none) : But p H (L2.upd H1 q o) := fun c u n h => by
  rw [upd_ne (ne_of_none (a c u n h) hq)]
  exact a c u n h
def spPurse (K : PySem.W.Frag) : Sp := fun vs H Q _ => ∃ (a : Addr) (ns : List Int) (i : Nat), vs = [.ref a, .int i] ∧ SqL K H a (ns.map V.int) ∧ i ≤ 63 ∧ ∀ (p : Addr) (H' : Hp), Same H H' → H p = none → PurseAt H' p 0 → Q (.ref p) H'
def spMixed : Sp := fun vs H Q _ => ∃ s n t : Int, vs = [.int s, .int n, .int t] ∧ -(2 ^ 64) < n ∧ n < 2 ^ 64 ∧ ∀ r : Int, Q (.int r) H
def spDraw : Sp := fun vs H Q _ => ∃ (p : Addr) (m B : Int), vs = [.ref p, .int m] ∧ PurseAt H p B ∧ 0 ≤ B ∧ B ≤ 1000000 ∧ 0 < m ∧ m < 2 ^ 110 ∧ ∀ (r : Int) (H' : Hp), But p H H' → PurseAt H' p (B + 4) → 0 ≤ r → r < m → Q (.int r) H'
section
variable {P : Program} {w : World} {K : PySem.W.Frag} {mg : Str → Option Value} {base : Heap}
theorem scMixed : FnScope ["_law_seed", "_law_spin", "_law_at", "_law_mixed_here"] ["_law_seed", "_law_spin", "_law_at"] (defScope sMixed) := ⟨rfl, rfl, rfl, by decide +kernel, rfl, by decide +kernel, by decide +kernel⟩
theorem ok_mixed {f : Addr} {fd : FuncData} (F : Fun K "_law_mixed" "_law_mixed" sMixed f fd) (T : Blt mg) : FnOk P w K mg base CX0 1 f fd ["_law_seed", "_law_spin", "_law_at"] spMixed := by
  refine F.ok scMixed (fun vs H Q E h => ?_) (fun cdv A outer s H vs Q E hr h => ?_)
  · obtain ⟨s, n, t, rfl, _⟩ := h
    rfl
  · obtain ⟨s, n, t, rfl, n1, n2, k⟩ := h
    refine ⟨_, pss_cons (ps_set (i := 3) scMixed.nd rfl (Or.inl rfl) (pe_op op_add (pe_op op_mul (pv 0) pe_int) (pe_op op_mul (pe_op op_mul pe_int (pv 1)) (pv 1))))
      (pss_cons (ps_set (i := 3) scMixed.nd rfl (Or.inl rfl) (pe_op op_mod (pe_callTy call_int1 (by rfl) T.int boot_int (pa_cons (pe_op op_add (pe_op op_add (pv 3) (pe_op op_mul pe_int (pv 2))) (pv 1)) pa_nil)) pe_int))
      (pss_cons (ps_set (i := 3) scMixed.nd rfl (Or.inl rfl) (pe_op op_mod (pe_callTy call_int1 (by rfl) T.int boot_int (pa_cons (pe_op op_add (pe_op op_mul (pv 3) (pv 3)) pe_int) pa_nil)) pe_int))
      (pss_one (ps_ret (pe_op op_mod (pe_callTy call_int1 (by rfl) T.int boot_int (pa_cons (pe_op op_mul (pv 3) pe_int) pa_nil)) pe_int))))), ?_⟩
    refine ⟨_, rfl, _, _, rfl, rfl, .inr (by decide), _, rfl, _, _, rfl, rfl, .inl (by decide), _, rfl, _, _, rfl, rfl, .inr ⟨n1, n2⟩, _, _, rfl, rfl, ?_⟩
    refine ⟨_, rfl, _, rfl, _, _, rfl, rfl, .inl (by decide), _, _, rfl, rfl, _, rfl, _, _, rfl, rfl, .inl ⟨_, rfl, _, _, rfl, rfl, (by show (0 : Int) < 2147483647; decide), ?_⟩⟩
    generalize hx : (s * 69069 + 104729 * n * n + 7919 * t + n) % 2147483647 = x
    have x1 : 0 ≤ x ∧ x < 2147483647 := by subst hx; omega
    refine ⟨_, rfl, _, rfl, _, _, rfl, rfl, .inl (by omega), _, _, rfl, rfl, .inl ⟨_, rfl, _, _, rfl, rfl, (by show (0 : Int) < 2147483629; decide), ?_⟩⟩
    exact ⟨_, rfl, _, _, rfl, rfl, .inr (by decide), .inl ⟨_, rfl, _, _, rfl, rfl, (by show (0 : Int) < 2147483587; decide), k _⟩⟩
theorem intBits_le110 {m : Int} (h : 0 < m) (h2 : m < 2 ^ 110) : (Builtin.Int.intBits m : Nat) / 28 ≤ 3 := by
  have b := PyProof.Rows.intBits_le (a := m) (k := 110) (by omega)
  omega
theorem scDraw : FnScope ["_law_purse_here", "_law_many", "_law_drawn", "_law_found", "_law_piece"] ["_law_purse_here", "_law_many"] (defScope sDraw) := ⟨rfl, rfl, rfl, by decide +kernel, rfl, by decide +kernel, by decide +kernel⟩
theorem ok_draw {f : Addr} {fd : FuncData} (F : Fun K "_law_draw" "_law_draw" sDraw f fd) (T : Blt mg) (M : Cee P w K mg base 1 "_law_mixed" ["_law_seed", "_law_spin", "_law_at"] spMixed) : FnOk P w K mg base CX0 2 f fd ["_law_purse_here", "_law_many"] spDraw := by
  refine F.ok scDraw (fun vs H Q E h => ?_) (fun cdv A outer s H vs Q E hr h => ?_)
  · obtain ⟨p, m, B, rfl, _⟩ := h
    rfl
  · obtain ⟨p, m, B, rfl, ⟨a, b, c, d, hp, b0, b1, c0, c1⟩, B0, B1, m0, m1, k⟩ := h
    have nd := scDraw.nd
    refine ⟨_, pss_cons (ps_if (pt_cmpR op_gt (pe_ix ix_list (pv 0) pe_int (fun _ _ => rfl)) pe_int (nomark _))
        (pss_cons (ps_set (i := 2) nd rfl (Or.inl rfl) (pe_op op_mod (pe_callTy call_int1 (by rfl) T.int boot_int (pa_cons (pe_ix ix_list (pv 0) pe_int (fun _ _ => rfl)) pa_nil)) (pv 1)))
          (pss_cons (ps_asg (pe_op op_fdivW (pe_ix ix_list (pv 0) pe_int (fun _ _ => rfl)) (pv 1)) (pg_sub (pv 0) pe_int set_list))
            (pss_one (ps_ret (pv 2)))))
        pss_nil)
      (pss_cons (ps_set (i := 3) nd rfl (Or.inl rfl) pe_int)
      (pss_cons (ps_for PassesOwn.never rfl (pi_range1 rfl T.range (pa_cons (pe_op op_add pe_int (pe_op op_fdiv (pe_bits (pv 1)) pe_int)) pa_nil)) (pg_name (i := 4) nd rfl (Or.inl rfl))
        (pss_cons (ps_asg (pe_op op_add (pe_ix ix_list (pv 0) pe_int (fun _ _ => rfl)) pe_int) (pg_sub (pv 0) pe_int set_list))
          (pss_one (ps_set (i := 3) nd rfl (Or.inl rfl) (pe_op op_add (pe_op op_mul (pv 3) pe_int)
            (pe_c M hr rfl (pa_cons (pe_ix ix_list (pv 0) pe_int (fun _ _ => rfl)) (pa_cons (pe_ix ix_list (pv 0) pe_int (fun _ _ => rfl)) (pa_cons (pe_ix ix_list (pv 0) pe_int (fun _ _ => rfl)) pa_nil)))))))))
      (pss_one (ps_ret (pe_op op_mod (pe_callTy call_int1 (by rfl) T.int boot_int (pa_cons (pv 3) pa_nil)) (pv 1)))))), ?_⟩
    have hS : SqL K H p [.int a, .int b, .int c, .int d] := SqL.of hp
    refine ⟨_, rfl, _, _, _, _, rfl, rfl, hS, atI_nat (j := 0) rfl, _, _, rfl, rfl, _, rfl, ?_⟩
    refine ite2 (fun _ => ?_) (fun _ => ?_)
    · refine ⟨_, rfl, _, _, _, _, rfl, rfl, hS, atI_nat (j := 0) rfl, .inl ⟨_, rfl, _, rfl, _, _, rfl, rfl, m0, ?_⟩⟩
      refine ⟨_, rfl, _, _, _, _, rfl, rfl, hS, atI_nat (j := 0) rfl, _, rfl, _, _, rfl, rfl, ⟨m0, ?_⟩, ?_⟩
      · exact Nat.lt_of_lt_of_le (PySem.Flt.log2_lt_of (k := 110) (by decide) (by omega)) (by decide)
      refine ⟨_, rfl, _, _, _, 0, rfl, rfl, hp, rfl, ?_⟩
      refine ⟨_, rfl, k _ _ ?_ ?_ ?_ ?_⟩
      · exact (But.refl p H).upd
      · exact ⟨_, _, _, _, upd_same, b0, b1, c0, by omega⟩
      · exact Int.emod_nonneg _ (by omega)
      · exact Int.emod_lt_of_pos _ m0
    · refine ⟨_, rfl, _, rfl, _, _, rfl, rfl, (by show (0 : Int) < 28 ∧ (28 : Int) < 1073741824; decide), _, _, rfl, rfl, _, rfl, ?_⟩
      have hb := intBits_le110 m0 m1
      generalize hn : (1 + ((Builtin.Int.intBits m : Nat) : Int) / 28) = n
      have n4 : n ≤ 4 := by omega
      have n0 : 0 ≤ n := by omega
      refine ⟨by omega, by omega, ?_⟩
      refine for_range (lo := 0) (n := n.toNat) (fun i σ H' => ∃ (fo : Int) (x2 x4 : Option V), σ = [some (.ref p), some (.int m), x2, some (.int fo), x4] ∧ But p H H' ∧ i ≤ 4 ∧
        ∃ a2 c2 : Int, H' p = some (.lst [.int a2, .int b, .int c2, .int d]) ∧ 0 ≤ c2 ∧ c2 ≤ c + i) ?_ ?_ ?_
      · exact ⟨0, _, _, rfl, But.refl p H, by omega, a, c, hp, c0, by omega⟩
      · rintro i σ H1 hi ⟨fo, x2, x4, rfl, bt, i4, a2, c2, h1, c20, c21⟩
        have h1S : SqL K H1 p [.int a2, .int b, .int c2, .int d] := SqL.of h1
        refine ⟨_, rfl, _, _, _, _, rfl, rfl, h1S, atI_nat (j := 2) rfl, _, _, rfl, rfl, _, rfl, _, _, _, 2, rfl, rfl, h1, rfl, ?_⟩
        have h2 : upd H1 p (.lst [.int a2, .int b, .int (c2 + 1), .int d]) p = some (.lst [.int a2, .int b, .int (c2 + 1), .int d]) := upd_same
        have h2S : SqL K (upd H1 p (.lst [.int a2, .int b, .int (c2 + 1), .int d])) p [.int a2, .int b, .int (c2 + 1), .int d] := SqL.of h2
        refine ⟨_, rfl, _, _, rfl, rfl, .inr (by decide), ?_⟩
        refine ⟨_, rfl, _, _, _, _, rfl, rfl, h2S, atI_nat (j := 1) rfl, ?_⟩
        refine ⟨_, rfl, _, _, _, _, rfl, rfl, h2S, atI_nat (j := 2) rfl, ?_⟩
        refine ⟨_, rfl, _, _, _, _, rfl, rfl, h2S, atI_nat (j := 3) rfl, ?_⟩
        refine ⟨_, _, _, rfl, by omega, by omega, fun r => ⟨_, _, rfl, rfl, ?_⟩⟩
        exact ⟨_, _, _, rfl, bt.upd, by omega, a2, c2 + 1, h2, by omega, by omega⟩
      · rintro σ H1 ⟨fo, x2, x4, rfl, bt, _, a2, c2, h1, c20, c21⟩
        refine ⟨_, rfl, .inl ⟨_, rfl, _, rfl, _, _, rfl, rfl, m0, ?_⟩⟩
        refine k _ _ bt ⟨_, _, _, _, h1, b0, b1, c20, by omega⟩ ?_ ?_
        · exact Int.emod_nonneg _ (by omega)
        · exact Int.emod_lt_of_pos _ m0
theorem cut_ints (ns : List Int) (lo hi : Option Int) : ∃ ms : List Int, cutV (ns.map V.int) lo hi = ms.map V.int := by
  unfold cutV
  rw [← List.map_drop, ← List.map_take]
  exact ⟨_, rfl⟩
theorem scPurse : FnScope ["_law_script", "_law_at", "_law_seed"] ["_law_script", "_law_at"] (defScope sPurse) := ⟨rfl, rfl, rfl, by decide +kernel, rfl, by decide +kernel, by decide +kernel⟩
theorem pow18 : CPow 10 18 := ⟨by decide, by decide, by decide⟩
theorem pow60 : CPow 10 60 := ⟨by decide, by decide, by decide⟩
theorem pow480 : (0 : Int) ≤ 8 ∧ (Builtin.Int.intBits ((10 : Int) ^ (60 : Int).toNat) : Int) * 8 ≤ 2 ^ 27 := by
  have b := PyProof.Rows.intBits_le (a := (10 : Int) ^ (60 : Int).toNat) (k := 300) (by decide +kernel)
  omega
theorem pos480 : (0 : Int) < ((10 : Int) ^ (60 : Int).toNat) ^ (8 : Int).toNat := by decide +kernel
theorem ok_purse {f : Addr} {fd : FuncData} (F : Fun K "_law_purse" "_law_purse" sPurse f fd) (T : Blt mg) : FnOk P w K mg base CX0 1 f fd ["_law_script", "_law_at"] (spPurse K) := by
  refine F.ok scPurse (fun vs H Q E h => ?_) (fun cdv A outer s H vs Q E hr h => ?_)
  · obtain ⟨a, ns, i, rfl, _⟩ := h
    rfl
  · obtain ⟨a, ns, i, rfl, hS, hi, k⟩ := h
    have nd := scPurse.nd
    refine ⟨_, pss_cons (ps_set (i := 2) nd rfl (Or.inl rfl) (pe_callB (cr_sum rfl) (by rfl) T.sum (by decide +kernel) (pa_cons (pe_slice sl_list (pv 0) (po_some (pv 1)) (po_some (pe_op op_add (pv 1) pe_int))) pa_nil)))
      (pss_one (ps_ret (pe_lst
        (pa_cons (pe_op op_mod (pe_callTy call_int1 (by rfl) T.int boot_int (pa_cons (pe_callB (call_max2 rfl) (by rfl) T.max boot_max (pa_cons (pe_op op_sub (pv 2) (pe_op op_pow pe_int pe_int)) (pa_cons pe_int pa_nil))) pa_nil)) (pe_op op_powW (pe_op op_pow pe_int pe_int) pe_int))
        (pa_cons (pe_op op_mod (pe_callTy call_int1 (by rfl) T.int boot_int (pa_cons (pv 2) pa_nil)) pe_int)
        (pa_cons pe_int (pa_cons (pv 1) pa_nil))))))), ?_⟩
    refine ⟨_, rfl, _, rfl, _, rfl, _, rfl, _, _, rfl, rfl, _, rfl, a, _, rfl, hS, fun p hp => ?_⟩
    obtain ⟨ms, hm⟩ := cut_ints ns (some (i : Int)) (some ((i : Int) + 1))
    have hpS : SqL K (upd H p (.lst (cutV (ns.map V.int) (some (i : Int)) (some ((i : Int) + 1))))) p (ms.map V.int) := SqL.of (by rw [← hm]; exact upd_same)
    refine ⟨p, ms, rfl, hpS, ?_⟩
    refine ⟨_, rfl, _, _, rfl, rfl, pow18, _, _, rfl, rfl, _, _, rfl, .inl ⟨_, rfl, ?_⟩⟩
    refine ⟨_, _, rfl, rfl, pow60, _, _, rfl, rfl, pow480, _, _, rfl, rfl, pos480, ?_⟩
    refine ⟨_, rfl, .inl ⟨_, rfl, _, _, rfl, rfl, (by show (0 : Int) < 2147483629; decide), ?_⟩⟩
    refine ⟨_, rfl, (by show 4 ≤ sizeLine; decide), fun q hq => ?_⟩
    have np : q ≠ p := fun e => by
      rw [e, upd_same] at hq
      cases hq
    have hq0 : H q = none := by
      rw [upd_ne np] at hq
      exact hq
    refine k q _ (fun b o e => ?_) hq0 ⟨_, _, _, _, upd_same, ?_, ?_, by decide, by decide⟩
    · rw [upd_ne (ne_of_none e hq0), upd_ne (ne_of_none e hp)]
      exact e
    · exact Int.emod_nonneg _ (by decide)
    · exact Int.emod_lt_of_pos _ (by decide)
def spOneOf : Sp := fun vs H Q _ => ∃ (p l : Addr) (xs : List V) (B : Int), vs = [.ref p, .ref l] ∧ p ≠ l ∧ PurseAt H p B ∧ 0 ≤ B ∧ B ≤ 1000000 ∧ H l = some (.lst xs) ∧ 0 < xs.length ∧ xs.length ≤ 1000 ∧
  ∀ (x : V) (H' : Hp), x ∈ xs → But p H H' → PurseAt H' p (B + 4) → Q x H'
theorem scOneOf : FnScope ["_law_purse_here", "_law_some"] ["_law_purse_here", "_law_some"] (defScope sOneOf) := ⟨rfl, rfl, rfl, by decide +kernel, rfl, by decide +kernel, by decide +kernel⟩
theorem ok_oneof {f : Addr} {fd : FuncData} (F : Fun K "_law_one_of" "_law_one_of" sOneOf f fd) (T : Blt mg) (D : Cee P w K mg base 2 "_law_draw" ["_law_purse_here", "_law_many"] spDraw) : FnOk P w K mg base CX0 3 f fd ["_law_purse_here", "_law_some"] spOneOf := by
  refine F.ok scOneOf (fun vs H Q E h => ?_) (fun cdv A outer s H vs Q E hr h => ?_)
  · obtain ⟨p, l, xs, B, rfl, _⟩ := h
    rfl
  · obtain ⟨p, l, xs, B, rfl, npl, hP, B0, B1, hl, l0, l1, k⟩ := h
    refine ⟨_, pss_one (ps_ret (pe_ix ix_list (pv 1) (pe_c D hr rfl (pa_cons (pv 0) (pa_cons (pe_callB call_len_seq (by rfl) T.len PySem.boot_len (pa_cons (pv 1) pa_nil)) pa_nil))) (fun _ _ => rfl))), ?_⟩
    refine ⟨_, rfl, _, rfl, _, rfl, l, _, rfl, .inl (SqL.of hl), ?_⟩
    refine ⟨p, _, B, rfl, hP, B0, B1, by omega, by omega, fun r H' bt hP' r0 r1 => ?_⟩
    obtain ⟨j, rfl⟩ : ∃ j : Nat, r = j := ⟨r.toNat, by omega⟩
    have hj : j < xs.length := by omega
    exact ⟨l, xs, _, xs[j], rfl, rfl, SqL.of (bt l _ npl.symm hl), atI_nat (by simp [hj]), k _ _ (List.getElem_mem hj) bt hP'⟩
/-- a word: one to eight letters from a to z -/
def Wd (x : Str) : Prop := 1 ≤ x.length ∧ x.length ≤ 8 ∧ ∀ c ∈ x.cps.toList, 97 ≤ c ∧ c ≤ 122
def Letter (x : Str) : Prop := ∃ c : Nat, x = ⟨#[c]⟩ ∧ 97 ≤ c ∧ c ≤ 122
theorem wd_join : ∀ ys : List Str, (∀ y ∈ ys, Letter y) → (Str.join ⟨#[]⟩ ys).length = ys.length ∧ ∀ c ∈ (Str.join ⟨#[]⟩ ys).cps.toList, 97 ≤ c ∧ c ≤ 122 := by
  intro ys
  induction ys with
  | nil => intro _; exact ⟨rfl, fun c hc => by cases hc⟩
  | cons y ys ih =>
    intro h
    obtain ⟨c, rfl, c1, c2⟩ := h y List.mem_cons_self
    obtain ⟨e1, e2⟩ := ih fun z hz => h z (List.mem_cons_of_mem _ hz)
    cases ys with
    | nil => exact ⟨rfl, fun d hd => by
        have : d = c := by simpa [Str.join] using hd
        omega⟩
    | cons z zs =>
      have e : Str.join ⟨#[]⟩ (⟨#[c]⟩ :: z :: zs) = (⟨#[c]⟩ : Str) ++ (⟨#[]⟩ : Str) ++ Str.join ⟨#[]⟩ (z :: zs) := rfl
      rw [e]
      refine ⟨?_, fun d hd => ?_⟩
      · rw [strLen_append, strLen_append, e1]
        show 1 + 0 + _ = _
        simp only [List.length_cons]
        omega
      · have hd' : d ∈ (c :: (Str.join ⟨#[]⟩ (z :: zs)).cps.toList) := by
          have : (((⟨#[c]⟩ : Str) ++ (⟨#[]⟩ : Str) ++ Str.join ⟨#[]⟩ (z :: zs)) : Str).cps.toList = c :: (Str.join ⟨#[]⟩ (z :: zs)).cps.toList := by
            show ((#[c] ++ #[]) ++ (Str.join ⟨#[]⟩ (z :: zs)).cps).toList = _
            simp
          rw [this] at hd
          exact hd
        rcases List.mem_cons.mp hd' with q | q
        · omega
        · exact e2 d q
theorem yes_if {σ : L2.St} {H : Hp} {A B : Hp → Prop} (h : A H) : tYes σ H (fun b H3 => if b = true then A H3 else B H3) := by
  unfold tYes
  dsimp only
  rw [if_pos rfl]
  exact h
def spWord : Sp := fun vs H Q _ => ∃ (p : Addr) (B : Int), vs = [.ref p] ∧ PurseAt H p B ∧ 0 ≤ B ∧ B ≤ 999000 ∧ ∀ (x : Str) (H' : Hp), Wd x → But p H H' → PurseAt H' p (B + 40) → Q (.str x) H'
theorem scWord : FnScope ["_law_purse_here", "_law_size", "_law_spin"] ["_law_purse_here"] (defScope sWord) := ⟨rfl, rfl, rfl, by decide +kernel, rfl, by decide +kernel, by decide +kernel⟩
theorem abc_at {j : Nat} (h : j < 26) : ∃ c, atI ("abcdefghijklmnopqrstuvwxyz" : Str).cps.toList (j : Int) = some c ∧ 97 ≤ c ∧ c ≤ 122 := by
  have e : ("abcdefghijklmnopqrstuvwxyz" : Str).cps.toList = (List.range 26).map (· + 97) := by decide +kernel
  refine ⟨j + 97, ?_, by omega, by omega⟩
  rw [e]
  exact atI_nat (by simp [h])
theorem ok_word {f : Addr} {fd : FuncData} (F : Fun K "_law_word" "_law_word" sWord f fd) (T : Blt mg) (D : Cee P w K mg base 2 "_law_draw" ["_law_purse_here", "_law_many"] spDraw) : FnOk P w K mg base CX0 3 f fd ["_law_purse_here"] spWord := by
  refine F.ok scWord (fun vs H Q E h => ?_) (fun cdv A outer s H vs Q E hr h => ?_)
  · obtain ⟨p, B, rfl, _⟩ := h
    rfl
  · obtain ⟨p, B, rfl, hP, B0, B1, k⟩ := h
    have nd := scWord.nd
    refine ⟨_, pss_cons (ps_set (i := 1) nd rfl (Or.inl rfl) (pe_op op_add pe_int (pe_c D hr rfl (pa_cons (pv 0) (pa_cons
        (pe_ifExp (pt_cmpR op_eq (pe_c D hr rfl (pa_cons (pv 0) (pa_cons pe_int pa_nil))) pe_int (nomark _)) pe_int pe_int) pa_nil)))))
      (pss_one (ps_ret (pe_join pe_str
        (pe_lc (own := [("_law_spin", 2)]) (g := gName 2) (tt := tYes) rfl nd (pi_range1 (by rfl) T.range (pa_cons (pv 1) pa_nil)) (blkOk_by (own := [("_law_spin", 2)]) (N := ["_law_purse_here", "_law_size", "_law_spin"]) (sc := defScope sWord) (by decide +kernel))
          (fun _ _ _ _ _ => pg_name (i := 2) nd rfl (Or.inl rfl)) (fun _ _ _ _ _ => pts_nil)
          (fun _ _ _ _ _ => pe_ix ix_str pe_str (pe_c D hr rfl (pa_cons (pv 0) (pa_cons pe_int pa_nil))) (fun _ _ => rfl)))))), ?_⟩
    refine ⟨_, rfl, _, rfl, p, 3, B, rfl, hP, B0, by omega, by decide, by decide, fun r1 H1 bt1 P1 r10 r11 => ?_⟩
    refine ⟨rfl, _, rfl, ?_⟩
    have B0' : (0 : Int) ≤ B + 4 := by omega
    refine ite2 (fun _ => ?_) (fun _ => ?_)
    all_goals
      refine ⟨p, _, B + 4, rfl, P1, B0', by omega, by decide, by decide, fun r2 H2 bt2 P2 r20 r21 => ?_⟩
      refine ⟨_, _, rfl, rfl, ⟨_, rfl⟩, _, rfl, _, rfl, by omega, by omega, fun D hD => ?_⟩
      have ndp : D ≠ p := fun e => by
        obtain ⟨_, _, _, _, q, _⟩ := P2
        rw [← e, hD] at q
        cases q
      refine lc_range (lo := 0) (n := (1 + r2).toNat) (fun i H' => But p H H' ∧ i ≤ 8 ∧ PurseAt H' p (B + 8 + 4 * i) ∧ ∃ ys : List Str, ys.length = i ∧ (∀ y ∈ ys, Letter y) ∧ H' D = some (.lst (ys.map V.str))) ?_ ?_ ?_
      · refine ⟨(bt1.trans bt2).new hD, by omega, ?_, [], rfl, fun y hy => by (cases hy), upd_same⟩
        obtain ⟨a, b, c, d, q, q1, q2, q3, q4⟩ := P2
        exact ⟨a, b, c, d, by rw [upd_ne ndp.symm]; exact q, q1, q2, q3, by omega⟩
      · rintro i H3 hi ⟨bt3, i8, P3, ys, yl, yL, hD3⟩
        refine ⟨rfl, yes_if ?_⟩
        refine ⟨_, rfl, p, 26, _, rfl, P3, by omega, by omega, by decide, by decide, fun r H4 bt4 P4 r0 r1 => ?_⟩
        obtain ⟨j, rfl⟩ : ∃ j : Nat, r = j := ⟨r.toNat, by omega⟩
        obtain ⟨c, hc, c1, c2⟩ := abc_at (j := j) (by omega)
        refine ⟨_, _, c, rfl, rfl, (by decide +kernel), hc, _, bt4 D _ ndp hD3, ?_, ?_⟩
        · rw [List.length_map, yl]
          exact small1000 (by omega)
        · refine ⟨?_, by omega, ?_, ys ++ [⟨#[c]⟩], by simp [yl], ?_, ?_⟩
          · intro b o n h
            have h4 := bt4 b o n (bt3 b o n h)
            have nbD : b ≠ D := ne_of_none ((bt1.trans bt2) b o n h) hD
            rw [upd_ne nbD]
            exact h4
          · obtain ⟨a, b, c, d, q, q1, q2, q3, q4⟩ := P4
            exact ⟨a, b, c, d, by rw [upd_ne ndp.symm]; exact q, q1, q2, q3, by omega⟩
          · intro y hy
            rcases List.mem_append.mp hy with h | h
            · exact yL y h
            · exact ⟨c, List.mem_singleton.mp h, c1, c2⟩
          · rw [List.map_append]
            exact upd_same
      · rintro H3 ⟨bt3, i8, P3, ys, yl, yL, hD3⟩
        obtain ⟨w1, w2⟩ := wd_join ys yL
        refine ⟨_, D, ys, rfl, rfl, .inl (SqL.of hD3), ?_, ?_⟩
        · have e : ∀ zs : List Str, (∀ y ∈ zs, Letter y) → (zs.map (·.length)).sum = zs.length := by
            intro zs
            induction zs with
            | nil => intro _; rfl
            | cons z zs ih =>
              intro h
              obtain ⟨c, rfl, _⟩ := h z List.mem_cons_self
              rw [List.map_cons, List.sum_cons, ih fun y hy => h y (List.mem_cons_of_mem _ hy), List.length_cons]
              show 1 + _ = _
              omega
          rw [e ys yL]
          show ys.length + ys.length * 0 ≤ _
          omega
        · have ej : Txt.join ("" : Str) ys = Str.join ⟨#[]⟩ ys := TL.join_eq _ _
          show Q (.str (Txt.join ("" : Str) ys)) H3
          rw [ej]
          refine k _ _ ⟨by omega, by omega, w2⟩ bt3 ?_
          obtain ⟨a, b, c, d, q, q1, q2, q3, q4⟩ := P3
          exact ⟨a, b, c, d, q, q1, q2, q3, by omega⟩
end
theorem Same.new {H : Hp} {p : Addr} {o : HO} (h : H p = none) : L2.Same H (upd H p o) := fun b u e => by
  rw [upd_ne (ne_of_none e h)]
  exact e
def spPurses (K : PySem.W.Frag) : Sp := fun vs H Q _ => ∃ (a : Addr) (ns : List Int) (m : Int), vs = [.ref a, .int m] ∧ SqL K H a (ns.map V.int) ∧ ns.length ≤ 63 ∧ 1 ≤ m ∧ m ≤ 60 ∧
  ∀ (l : Addr) (ps : List Addr) (H' : Hp), L2.Same H H' → H' l = some (.lst (ps.map V.ref)) → (∀ p ∈ ps, PurseAt H' p 0 ∧ H p = none ∧ p ≠ l) → ps.Nodup → ps ≠ [] → (ps.length : Int) ≤ m → Q (.ref l) H'
section
variable {P : Program} {w : World} {K : PySem.W.Frag} {mg : Str → Option Value} {base : Heap}
theorem PurseAt.mono {H H' : Hp} {p : Addr} {B : Int} (s : L2.Same H H') (h : PurseAt H p B) : PurseAt H' p B := by
  obtain ⟨a, b, c, d, q, r⟩ := h
  exact ⟨a, b, c, d, s _ _ q, r⟩
theorem scPurses : FnScope ["_law_script", "_law_few", "_law_at"] ["_law_script", "_law_few"] (defScope sPurses) := ⟨rfl, rfl, rfl, by decide +kernel, rfl, by decide +kernel, by decide +kernel⟩
theorem ok_purses {f : Addr} {fd : FuncData} (F : Fun K "_law_purses" "_law_purses" sPurses f fd) (B : Blt mg) (Pu : Cee P w K mg base 1 "_law_purse" ["_law_script", "_law_at"] (spPurse K)) : FnOk P w K mg base CX0 2 f fd ["_law_script", "_law_few"] (spPurses K) := by
  refine F.ok scPurses (fun vs H Q E h => ?_) (fun cdv A outer s H vs Q E hr h => ?_)
  · obtain ⟨a, ns, m, rfl, _⟩ := h
    rfl
  · obtain ⟨a, ns, m, rfl, hS, few, m1, m2, k⟩ := h
    have nd := scPurses.nd
    refine ⟨_, pss_one (ps_ret (pe_lc (own := [("_law_at", 2)]) (g := gName 2) (tt := tYes) (te := tCall (spPurse K) [] E0 (tCons (tVar 0) (tCons (tVar 2) tNil))) rfl nd
      (pi_range1 (by rfl) B.range (pa_cons (pe_callB (call_max2 rfl) (by rfl) B.max boot_max (pa_cons pe_int (pa_cons (pe_callB (call_min2 rfl) (by rfl) B.min (by decide +kernel) (pa_cons (pv 1) (pa_cons (pe_callB call_len_seq (by rfl) B.len PySem.boot_len (pa_cons (pv 0) pa_nil)) pa_nil))) pa_nil))) pa_nil))
      (blkOk_by (own := [("_law_at", 2)]) (N := ["_law_script", "_law_few", "_law_at"]) (sc := defScope sPurses) (by decide +kernel))
      (fun _ _ _ _ _ => pg_name (i := 2) nd rfl (Or.inl rfl)) (fun _ _ _ _ _ => pts_nil) (fun _ _ _ _ _ => pe_c Pu hr rfl (pa_cons (pv 0) (pa_cons (pv 2) pa_nil))))), ?_⟩
    refine ⟨_, rfl, _, rfl, _, _, rfl, .inl hS, _, _, rfl, _, _, rfl, ?_⟩
    generalize hn : (if (if (((ns.map V.int).length : Nat) : Int) < m then (((ns.map V.int).length : Nat) : Int) else m) > 1 then (if (((ns.map V.int).length : Nat) : Int) < m then (((ns.map V.int).length : Nat) : Int) else m) else 1) = n
    have n1 : 1 ≤ n ∧ n ≤ m := by
      subst hn
      split <;> split <;> omega
    refine ⟨_, rfl, by omega, by omega, fun R hR => ?_⟩
    refine lc_range (lo := 0) (n := n.toNat) (fun i H' => L2.Same H H' ∧ ∃ ps : List Addr, ps.length = i ∧ H' R = some (.lst (ps.map V.ref)) ∧ (∀ p ∈ ps, PurseAt H' p 0 ∧ H p = none ∧ p ≠ R) ∧ ps.Nodup) ?_ ?_ ?_
    · exact ⟨Same.new hR, [], rfl, upd_same, fun p hp => by (cases hp), List.nodup_nil⟩
    · rintro i H1 hi ⟨s1, ps, pl, h1, hp, pnd⟩
      refine ⟨rfl, yes_if ?_⟩
      refine ⟨_, rfl, _, rfl, a, ns, i, ?_, s1.seq hS, by omega, fun p H2 s2 hp0 P2 => ?_⟩
      · rw [Int.zero_add]
        rfl
      · have hH : H p = none := s1.free hp0
        have pR : p ≠ R := fun e => by
          rw [e, h1] at hp0
          cases hp0
        have hR2 : H2 R = some (.lst (ps.map V.ref)) := s2 _ _ h1
        refine ⟨_, hR2, ?_, ?_, ps ++ [p], by simp [pl], ?_, ?_, ?_⟩
        · rw [List.length_map, pl]
          exact small1000 (by omega)
        · intro b o e
          rw [upd_ne (ne_of_none e hR)]
          exact s2 _ _ (s1 _ _ e)
        · rw [List.map_append]
          exact upd_same
        · intro q hq
          have keep : ∀ {q : Addr}, PurseAt H2 q 0 → q ≠ R → PurseAt (upd H2 R (.lst (ps.map V.ref ++ [.ref p]))) q 0 := by
            rintro q ⟨a, b, c, d, e, r⟩ nq
            exact ⟨a, b, c, d, by rw [upd_ne nq]; exact e, r⟩
          rcases List.mem_append.mp hq with h | h
          · obtain ⟨x1, x2, x3⟩ := hp q h
            exact ⟨keep (x1.mono s2) x3, x2, x3⟩
          · have e := List.mem_singleton.mp h
            subst e
            exact ⟨keep P2 pR, hH, pR⟩
        · refine List.nodup_append.mpr ⟨pnd, by simp, fun x hx y hy e => ?_⟩
          have e2 := List.mem_singleton.mp hy
          subst e2
          subst e
          obtain ⟨⟨a1, b1, c1, d1, q, _⟩, _⟩ := hp x hx
          rw [q] at hp0
          cases hp0
    · rintro H1 ⟨s1, ps, pl, h1, hp, pnd⟩
      refine k R ps H1 s1 h1 hp pnd (fun e => ?_) (by omega)
      rw [e] at pl
      simp at pl
      omega
end
end KT
set_option Elab.async false
set_option linter.all false
set_option maxRecDepth 100000
set_option maxHeartbeats 4000000
namespace KT
open PySem L2 PyProof.Rows
theorem But.fresh {p q : Addr} {H H1 : Hp} {o : HO} (a : But p H H1) (hq : H q = none) : But p H (L2.upd H1 q o) := fun c u n h => by
  rw [upd_ne (ne_of_none h hq)]
  exact a c u n h
theorem But.same {p : Addr} {H H1 H2 : Hp} (a : But p H H1) (s : L2.Same H1 H2) : But p H H2 := fun c u n h => s _ _ (a c u n h)
theorem Same.but {p : Addr} {H H1 H2 : Hp} (s : L2.Same H H1) (a : But p H1 H2) : But p H H2 := fun c u n h => a c u n (s _ _ h)
theorem Same.asBut {p : Addr} {H H1 : Hp} (s : L2.Same H H1) : But p H H1 := fun c u _ h => s _ _ h
theorem PurseAt.le {H : Hp} {p : Addr} {B B' : Int} (h : PurseAt H p B) (k : B ≤ B') : PurseAt H p B' := by
  obtain ⟨a, b, c, d, q, q1, q2, q3, q4⟩ := h
  exact ⟨a, b, c, d, q, q1, q2, q3, by omega⟩
theorem PurseAt.at {H H' : Hp} {p : Addr} {B : Int} (e : H' p = H p) (h : PurseAt H p B) : PurseAt H' p B := by
  obtain ⟨a, b, c, d, q, r⟩ := h
  exact ⟨a, b, c, d, by rw [e]; exact q, r⟩
theorem PurseAt.upd {H : Hp} {p q : Addr} {o : HO} {B : Int} (h : PurseAt H p B) (n : p ≠ q) : PurseAt (L2.upd H q o) p B := h.at (upd_ne n)
theorem PurseAt.ne {H : Hp} {p q : Addr} {B : Int} (h : PurseAt H p B) (n : H q = none) : p ≠ q := by
  obtain ⟨a, b, c, d, q, r⟩ := h
  exact ne_of_none q n
theorem But.free {p q : Addr} {H H' : Hp} {B : Int} (a : But p H H') (hp : PurseAt H' p B) (h : H' q = none) : H q = none := by
  have n := hp.ne h
  cases e : H q with
  | none => rfl
  | some o =>
    rw [a q o n.symm e] at h
    cases h
/-- a draw of a number told by a Nat -/
theorem nat_of {r m : Int} (h : 0 ≤ r) : ∃ j : Nat, r = j := ⟨r.toNat, by omega⟩
section
variable {P : Program} {w : World} {K : PySem.W.Frag} {mg : Str → Option Value} {base : Heap}
abbrev DrawC (P : Program) (w : World) (K : PySem.W.Frag) (mg : Str → Option Value) (base : Heap) : Prop := Cee P w K mg base 2 "_law_draw" ["_law_purse_here", "_law_many"] spDraw
theorem take_next' {α : Type} {l : List α} {i : Nat} {x : α} (h : l[i]? = some x) : l.take (i + 1) = l.take i ++ [x] := by
  rw [List.take_add_one, h]
  rfl
end
end KT
set_option Elab.async false
set_option linter.all false
set_option maxRecDepth 100000
set_option maxHeartbeats 4000000
namespace KT
open PySem L2 PyProof.Rows
theorem at_slots {t : TS} {D : Ends} {σ σ' : L2.St} {H : Hp} (e : σ = σ') (h : t D σ' H) : t D σ H := by
  subst e
  exact h
theorem at_name {i : Nat} {v : V} {σ σ' : L2.St} {H : Hp} {Q : L2.St → Hp → Prop} (e : σ.set i (some v) = σ') (h : Q σ' H) : gName i v σ H Q := by
  subst e
  exact h
section
variable {P : Program} {w : World} {K : PySem.W.Frag} {mg : Str → Option Value} {base : Heap}
def spWords : Sp := fun vs H Q _ => ∃ (p : Addr) (m B : Int), vs = [.ref p, .int m] ∧ PurseAt H p B ∧ 0 ≤ B ∧ B ≤ 980000 ∧ 1 ≤ m ∧ m ≤ 12 ∧
  ∀ (q : Addr) (ws : List Str) (H' : Hp), H q = none → But p H H' → PurseAt H' p (B + 1000) → H' q = some (.lst (ws.map V.str)) → (ws.length : Int) = m → (∀ x ∈ ws, Wd x) → ws.Nodup → Q (.ref q) H'
abbrev nWords : List Str := ["_law_purse_here", "_law_many", "_law_base", "_law_near", "_law_spot", "_law_found", "_law_spin", "_law_word_here", "_law_letter"]
theorem scWords : FnScope nWords ["_law_purse_here", "_law_many"] (defScope sWords) := ⟨rfl, rfl, rfl, by decide +kernel, rfl, by decide +kernel, by decide +kernel⟩
theorem abc_signs : SmR.signs "abcdefghijklmnopqrstuvwxyz" = (List.range 26).map fun j => (⟨#[97 + j]⟩ : Str) := by decide +kernel
theorem inV_strs (x : Str) (ws : List Str) : inV (.str x) (ws.map V.str) = decide (x ∈ ws) := by
  unfold inV
  rw [List.any_map]
  induction ws with
  | nil => rfl
  | cons y ys ih =>
    rw [List.any_cons, ih]
    show ((y == x) || _) = _
    by_cases e : y = x
    · subst e; simp
    · have e2 : ¬ x = y := fun z => e z.symm
      simp [e, e2]
theorem flat_strs (ws : List Str) : (ws.map V.str).all flatV = true := by
  rw [List.all_map]
  exact List.all_eq_true.mpr fun _ _ => rfl
theorem abc_nodup : (SmR.signs "abcdefghijklmnopqrstuvwxyz").Nodup := by rw [abc_signs]; decide +kernel
theorem abc_len : (SmR.signs "abcdefghijklmnopqrstuvwxyz").length = 26 := by decide +kernel
theorem abc_wd : ∀ x ∈ SmR.signs "abcdefghijklmnopqrstuvwxyz", Wd x := by
  intro x hx
  rw [abc_signs] at hx
  obtain ⟨j, hj, rfl⟩ := List.mem_map.mp hx
  have h26 := List.mem_range.mp hj
  refine ⟨by show 1 ≤ 1; decide, by show 1 ≤ 8; decide, fun c hc => ?_⟩
  have e : c = 97 + j := by simpa using hc
  omega
/-- a letter that is no word yet -/
theorem abc_free {ws : List Str} (h : ws.length < 26) : ∃ y ys, (SmR.signs "abcdefghijklmnopqrstuvwxyz").filter (fun y => decide (y ∉ ws)) = y :: ys ∧ Wd y ∧ y ∉ ws := by
  cases e : (SmR.signs "abcdefghijklmnopqrstuvwxyz").filter (fun y => decide (y ∉ ws)) with
  | nil =>
    have := List.Nodup.length_le_of_subset abc_nodup (l₂ := ws) fun x hx => Classical.byContradiction fun n => by
      have m : x ∈ (SmR.signs "abcdefghijklmnopqrstuvwxyz").filter (fun y => decide (y ∉ ws)) := List.mem_filter.mpr ⟨hx, decide_eq_true n⟩
      rw [e] at m
      cases m
    rw [abc_len] at this
    omega
  | cons y ys =>
    have m : y ∈ (SmR.signs "abcdefghijklmnopqrstuvwxyz").filter (fun y => decide (y ∉ ws)) := by rw [e]; exact List.mem_cons_self
    obtain ⟨m1, m2⟩ := List.mem_filter.mp m
    exact ⟨y, ys, rfl, abc_wd y m1, of_decide_eq_true m2⟩
/-- a word with one letter changed -/
theorem near_wd {z : Str} {j c : Nat} (h : Wd z) (hj : j < z.length) (c1 : 97 ≤ c) (c2 : c ≤ 122) : Wd (cutS z none (some (j : Int)) ++ ⟨#[c]⟩ ++ cutS z (some ((j : Int) + 1)) none) ∧ (cutS z none (some (j : Int))).length = j ∧ (cutS z (some ((j : Int) + 1)) none).length = z.length - (j + 1) := by
  obtain ⟨h1, h2, h3⟩ := h
  have zl : z.cps.toList.length = z.length := Array.length_toList
  have e1 : (cutS z none (some (j : Int))).cps.toList = z.cps.toList.take j := by
    unfold cutS
    show (z.cps.toList.drop 0).take (HT.sIx z.length z.length (some (j : Int)) - 0) = _
    rw [HT.sIx_nat, List.drop_zero, Nat.sub_zero, Nat.min_eq_left (by omega)]
  have e2 : (cutS z (some ((j : Int) + 1)) none).cps.toList = z.cps.toList.drop (j + 1) := by
    unfold cutS
    show (z.cps.toList.drop (HT.sIx z.length 0 (some ((j : Int) + 1)))).take (HT.sIx z.length z.length none - HT.sIx z.length 0 (some ((j : Int) + 1))) = _
    have ej : ((j : Int) + 1) = ((j + 1 : Nat) : Int) := by omega
    rw [ej, HT.sIx_nat, Nat.min_eq_left (by omega)]
    show (z.cps.toList.drop (j + 1)).take (z.length - (j + 1)) = _
    rw [List.take_of_length_le (by rw [List.length_drop, zl]; omega)]
  have l1 : (cutS z none (some (j : Int))).length = j := by
    show (cutS z none (some (j : Int))).cps.size = j
    rw [← Array.length_toList, e1, List.length_take, zl]; omega
  have l2 : (cutS z (some ((j : Int) + 1)) none).length = z.length - (j + 1) := by
    show (cutS z (some ((j : Int) + 1)) none).cps.size = _
    rw [← Array.length_toList, e2, List.length_drop, zl]
  refine ⟨⟨?_, ?_, fun d hd => ?_⟩, l1, l2⟩
  · rw [strLen_append, strLen_append, l1, l2]
    show 1 ≤ j + 1 + _
    omega
  · rw [strLen_append, strLen_append, l1, l2]
    show j + 1 + (z.length - (j + 1)) ≤ 8
    omega
  · have e : (cutS z none (some (j : Int)) ++ (⟨#[c]⟩ : Str) ++ cutS z (some ((j : Int) + 1)) none).cps.toList = z.cps.toList.take j ++ [c] ++ z.cps.toList.drop (j + 1) := by
      show (((cutS z none (some (j : Int))).cps ++ #[c]) ++ (cutS z (some ((j : Int) + 1)) none).cps).toList = _
      rw [Array.toList_append, Array.toList_append, e1, e2]
    rw [e] at hd
    rcases List.mem_append.mp hd with q | q
    · rcases List.mem_append.mp q with q | q
      · exact h3 d (List.mem_of_mem_take q)
      · have := List.mem_singleton.mp q
        omega
    · exact h3 d (List.mem_of_mem_drop q)
theorem ok_words {f : Addr} {fd : FuncData} (F : Fun K "_law_words" "_law_words" sWords f fd) (T : Blt mg) (hl : mg "list" = none) (D : DrawC P w K mg base) (W : Cee P w K mg base 3 "_law_word" ["_law_purse_here"] spWord) : FnOk P w K mg base CX0 4 f fd ["_law_purse_here", "_law_many"] spWords := by
  refine F.ok scWords (fun vs H Q E h => ?_) (fun cdv A outer s H vs Q E hr h => ?_)
  · obtain ⟨p, m, B, rfl, _⟩ := h
    rfl
  · obtain ⟨p, m, B, rfl, hP, B0, B1, m1, m2, k⟩ := h
    have nd := scWords.nd
    refine ⟨_, pss_cons (ps_par (i := 2) (j := 3) rfl nd rfl rfl (by decide) rfl rfl (pa_cons (pe_c W hr rfl (pa_cons (pv 0) pa_nil)) (pa_cons (pe_cmpR op_eq (pe_c D hr rfl (pa_cons (pv 0) (pa_cons pe_int pa_nil))) pe_int (nomark _)) pa_nil)) (by rfl))
      (pss_cons (ps_asg (pe_tup (pa_cons (pe_c D hr rfl (pa_cons (pv 0) (pa_cons (pe_callB call_len (by rfl) T.len PySem.boot_len (pa_cons (pv 2) pa_nil)) pa_nil))) (pa_cons (pe_lst pa_nil) pa_nil))) (pg_tup rfl (pgs_cons (pg_name (i := 4) nd rfl (Or.inl rfl)) (pgs_cons (pg_name (i := 5) nd rfl (Or.inr rfl)) pgs_nil))))
      (pss_cons (ps_for PassesOwn.never rfl (pi_range1 rfl T.range (pa_cons (pv 1) pa_nil)) (pg_name (i := 6) nd rfl (Or.inl rfl))
        (pss_cons (ps_set (i := 7) nd rfl (Or.inl rfl) (pe_op op_add_str (pe_op op_add_str (pe_slice sl_str (pv 2) po_none (po_some (pv 4))) (pe_ix ix_str pe_str (pe_c D hr rfl (pa_cons (pv 0) (pa_cons pe_int pa_nil))) (fun _ _ => rfl)))
            (pe_slice sl_str (pv 2) (po_some (pe_op op_add (pv 4) pe_int)) po_none)))
        (pss_cons (ps_if (pt_not (pt_val (pv 3))) (pss_one (ps_set (i := 7) nd rfl (Or.inl rfl) (pe_c W hr rfl (pa_cons (pv 0) pa_nil)))) pss_nil)
        (pss_cons (ps_if (pt_cmpR op_in_seq (pv 7) (pv 5) (by rfl)) (pss_one (ps_set (i := 7) nd rfl (Or.inl rfl) (pe_ix ix_list
            (pe_lc (own := [("_law_letter", 8)]) (g := gName 8) (tt := tTest (tOp (rIn K true) (tVar 8) (tVar 5))) (te := tVar 8) rfl nd (pi_list (pe_callTy (SmR.cr_listStr rfl) (by rfl) hl (by decide +kernel) (pa_cons pe_str pa_nil))) (blkOk_by (own := [("_law_letter", 8)]) (N := nWords) (sc := defScope sWords) (by decide +kernel))
              (fun _ _ _ _ _ => pg_name (i := 8) nd rfl (Or.inl rfl)) (fun _ _ _ _ _ => pts_one (pt_cmpR op_notIn_seq (pv 8) (pv 5) (by rfl))) (fun _ _ _ _ _ => pv 8)) pe_int (fun _ _ => rfl)))) pss_nil)
        (pss_one (ps_expr (pe_bm PySem.F.plainAttrs_list PySem.F.slot_list_append PySem.F.type_list_append mt_append (pv 5) (pa_cons (pv 7) pa_nil))))))))
      (pss_one (ps_ret (pv 5))))), ?_⟩
    refine ⟨_, rfl, p, B, rfl, hP, B0, by omega, fun base H1 hbase bt1 hP1 => ?_⟩
    refine ⟨_, rfl, p, 3, _, rfl, hP1, by omega, by omega, by decide, by decide, fun r1 H2 bt2 hP2 _ _ => ?_⟩
    refine ⟨rfl, _, _, rfl, ?_⟩
    generalize hnear : decide (V.int r1 = V.int 0) = near
    refine at_slots (σ' := [some (.ref p), some (.int m), some (.str base), some (.bl near), none, none, none, none, none]) rfl ?_
    have lb := hbase.2.1
    refine ⟨_, rfl, _, rfl, _, base.length, rfl, ⟨by rw [sizeLine_eq]; omega, rfl⟩, ?_⟩
    refine ⟨p, base.length, _, rfl, hP2, by omega, by omega, ?_, by omega, fun r2 H3 bt3 hP3 r20 r21 => ?_⟩
    · have := hbase.1
      omega
    refine ⟨(by show 0 ≤ sizeLine; decide), fun q hq => ?_⟩
    have bt := bt1.trans (bt2.trans bt3)
    have hq0 : H q = none := bt.free hP3 hq
    have hP4 := hP3.upd (q := q) (o := .lst []) (hP3.ne hq)
    have e4 : upd H3 q (.lst []) q = some (.lst []) := upd_same
    have bt4 : But p H (upd H3 q (.lst [])) := bt.new hq
    generalize upd H3 q (.lst []) = G4 at hP4 e4 bt4 ⊢
    refine ⟨(by show 2 ≤ sizeLine; decide), fun t ht => ?_⟩
    have hP5 := hP4.upd (q := t) (o := .tup [.int r2, .ref q]) (hP4.ne ht)
    have e5 : upd G4 t (.tup [.int r2, .ref q]) q = some (.lst []) := (upd_ne (ne_of_none e4 ht)).trans e4
    have e6 : upd G4 t (.tup [.int r2, .ref q]) t = some (.tup [.int r2, .ref q]) := upd_same
    have bt5 : But p H (upd G4 t (.tup [.int r2, .ref q])) := bt4.new ht
    generalize upd G4 t (.tup [.int r2, .ref q]) = G5 at hP5 e5 e6 bt5 ⊢
    refine ⟨t, _, rfl, SqT.of e6, rfl, _, _, rfl, ?_⟩
    refine at_name (σ' := [some (.ref p), some (.int m), some (.str base), some (.bl near), some (.int r2), none, none, none, none]) rfl ?_
    refine ⟨_, _, rfl, ?_⟩
    refine at_name (σ' := [some (.ref p), some (.int m), some (.str base), some (.bl near), some (.int r2), some (.ref q), none, none, none]) rfl ?_
    refine ⟨rfl, ?_⟩
    refine ⟨_, rfl, m, rfl, by omega, by omega, ?_⟩
    obtain ⟨sp, rfl⟩ := nat_of (m := 0) r20
    refine for_range (lo := 0) (n := m.toNat) (fun i σ H' => ∃ (x6 x7 x8 : Option V) (ws : List Str), σ = [some (.ref p), some (.int m), some (.str base), some (.bl near), some (.int sp), some (.ref q), x6, x7, x8] ∧ But p H H' ∧ PurseAt H' p (B + 48 + 44 * i) ∧ H' q = some (.lst (ws.map V.str)) ∧ ws.length = i ∧ (∀ x ∈ ws, Wd x) ∧ ws.Nodup) ?_ ?_ ?_
    · exact ⟨_, _, _, [], rfl, bt5, hP5.le (by omega), e5, rfl, fun x hx => by (cases hx), List.nodup_nil⟩
    · rintro i σ H6 hi ⟨x6, x7, x8, ws, rfl, bt6, hP6, hq6, lw, wd, ndw⟩
      have npq : p ≠ q := fun e => by
        obtain ⟨a, b, c, d, h1, _⟩ := hP6
        rw [e, hq6] at h1
        have e1 := congrArg (fun o => match o with | some (.lst xs) => xs.head? | _ => none) h1
        cases ws <;> cases e1
      refine ⟨_, rfl, _, rfl, _, rfl, _, rfl, by rw [sizeLine_eq]; omega, ?_⟩
      refine ⟨_, rfl, p, 26, _, rfl, hP6, by omega, by omega, by decide, by decide, fun r3 H7 bt7 hP7 r30 r31 => ?_⟩
      obtain ⟨j, rfl⟩ := nat_of (m := 0) r30
      obtain ⟨c, hc, c1, c2⟩ := abc_at (j := j) (by omega)
      refine ⟨_, _, c, rfl, rfl, by decide +kernel, hc, ?_⟩
      obtain ⟨wn, ln⟩ := near_wd hbase (j := sp) (by omega) c1 c2
      have l1c : (⟨#[c]⟩ : Str).length = 1 := rfl
      refine ⟨_, _, rfl, rfl, by rw [sizeLine_eq, l1c, ln.1]; omega, ?_⟩
      refine ⟨_, rfl, _, rfl, _, _, rfl, rfl, _, rfl, _, rfl, by rw [sizeLine_eq]; omega, ?_⟩
      refine ⟨_, _, rfl, rfl, by rw [sizeLine_eq, strLen_append, l1c, ln.1, ln.2]; omega, ?_⟩
      generalize hw0 : cutS base none (some (sp : Int)) ++ (⟨#[c]⟩ : Str) ++ cutS base (some ((sp : Int) + 1)) none = w0 at wn ⊢
      refine at_name (σ' := [some (.ref p), some (.int m), some (.str base), some (.bl near), some (.int sp), some (.ref q), some (.int (0 + i)), some (.str w0), x8]) rfl ?_
      have hq7 : H7 q = some (.lst (ws.map V.str)) := bt7 q _ npq.symm hq6
      have bt67 := bt6.trans bt7
      refine ⟨_, rfl, near, rfl, ?_⟩
      cases near
      · refine iteT ?_
        refine ⟨_, rfl, p, _, rfl, hP7, by omega, by omega, fun w1 H8 wd1 bt8 hP8' => ?_⟩
        refine at_name (σ' := [some (.ref p), some (.int m), some (.str base), some (.bl false), some (.int sp), some (.ref q), some (.int (0 + i)), some (.str w1), x8]) rfl ?_
        have hP8 : PurseAt H8 p (B + 48 + 44 * i + 44) := hP8'.le (by omega)
        have hq8 : H8 q = some (.lst (ws.map V.str)) := bt8 q _ npq.symm hq7
        have btH := bt67.trans bt8
        refine ⟨_, rfl, _, rfl, q, _, rfl, .inl (SqL.of hq8), rfl, flat_strs ws, _, rfl, ?_⟩
        rw [if_neg Bool.false_ne_true, inV_strs]
        refine ite2 (fun hin => ?_) (fun hin => ?_)
        · refine ⟨"abcdefghijklmnopqrstuvwxyz", rfl, by decide +kernel, fun L hL => ?_⟩
          have hP9 := hP8.upd (q := L) (o := .lst ((SmR.signs "abcdefghijklmnopqrstuvwxyz").map V.str)) (hP8.ne hL)
          have hq9 : upd H8 L (.lst ((SmR.signs "abcdefghijklmnopqrstuvwxyz").map V.str)) q = some (.lst (ws.map V.str)) := (upd_ne (ne_of_none hq8 hL)).trans hq8
          have hL9 : upd H8 L (.lst ((SmR.signs "abcdefghijklmnopqrstuvwxyz").map V.str)) L = _ := upd_same
          have bt9 : But p H (upd H8 L (.lst ((SmR.signs "abcdefghijklmnopqrstuvwxyz").map V.str))) := btH.new hL
          generalize upd H8 L (.lst ((SmR.signs "abcdefghijklmnopqrstuvwxyz").map V.str)) = H9 at hP9 hq9 hL9 bt9 ⊢
          refine ⟨L, rfl, ⟨_, SqL.of hL9⟩, fun D hD => ?_⟩
          refine lc_list (K := K) (a := L) (xs := (SmR.signs "abcdefghijklmnopqrstuvwxyz").map V.str) (fun n H' => L2.Same H9 H' ∧ H' D = some (.lst ((((SmR.signs "abcdefghijklmnopqrstuvwxyz").take n).filter fun y => decide (y ∉ ws)).map V.str))) ?_ ?_ ?_ ?_
          · exact ⟨Same.new hD, upd_same⟩
          · rintro n H' _ ⟨sm, _⟩
            exact SqL.of (sm _ _ hL9)
          · rintro n x H' hx ⟨sm, hD'⟩
            obtain ⟨y, hy, rfl⟩ : ∃ y, (SmR.signs "abcdefghijklmnopqrstuvwxyz")[n]? = some y ∧ x = .str y := by
              rw [List.getElem?_map] at hx
              cases e : (SmR.signs "abcdefghijklmnopqrstuvwxyz")[n]? with
              | none => rw [e] at hx; cases hx
              | some y => rw [e] at hx; exact ⟨y, rfl, (Option.some.inj hx).symm⟩
            refine ⟨rfl, ?_⟩
            refine ⟨_, rfl, _, rfl, q, _, rfl, .inl (SqL.of (sm _ _ hq9)), rfl, flat_strs ws, _, rfl, ?_⟩
            rw [if_pos rfl, inV_strs]
            rw [take_next' hy, List.filter_append]
            by_cases hy2 : y ∈ ws
            · refine iteNS hy2 ⟨sm, ?_⟩
              rw [List.filter_cons_of_neg (by simpa using hy2), List.filter_nil, List.append_nil]
              exact hD'
            · rw [decide_eq_false hy2]
              refine ⟨_, rfl, _, hD', ?_, ?_, ?_⟩
              · rw [List.length_map]
                refine small1000 (Nat.le_trans (List.length_filter_le _ _) ?_)
                rw [List.length_take, abc_len]; omega
              · intro b o e
                rw [upd_ne (fun z => by rw [z, hD] at e; cases e)]
                exact sm _ _ e
              · rw [List.filter_cons_of_pos (by simpa using hy2), List.filter_nil, List.map_append]
                exact upd_same
          · rintro H' ⟨sm, hD'⟩
            rw [List.length_map, List.take_length] at hD'
            obtain ⟨y, ys, ey, wy, ny⟩ := abc_free (ws := ws) (by omega)
            rw [ey] at hD'
            refine ⟨D, _, 0, .str y, rfl, rfl, SqL.of hD', atI_nat (j := 0) rfl, ?_⟩
            refine at_name (σ' := [some (.ref p), some (.int m), some (.str base), some (.bl false), some (.int sp), some (.ref q), some (.int (0 + i)), some (.str y), x8]) rfl ?_
            have hqE := sm _ _ hq9
            have hPE := hP9.mono sm
            refine ⟨_, rfl, .inl ⟨rfl, _, SqL.of hqE⟩, _, rfl, q, _, _, rfl, rfl, hqE, by rw [List.length_map]; exact small1000 (by omega), ?_⟩
            refine ⟨_, _, _, ws ++ [y], rfl, (bt9.same sm).fresh hq0, (hPE.upd npq).le (by omega), by rw [List.map_append]; exact upd_same, by simp [lw], ?_, ?_⟩
            · intro x hx
              rcases List.mem_append.mp hx with h | h
              · exact wd x h
              · rw [List.mem_singleton.mp h]; exact wy
            · exact List.nodup_append.mpr ⟨ndw, by simp, fun a ha b hb e => ny (by rw [← List.mem_singleton.mp hb, ← e]; exact ha)⟩
        · refine ⟨_, rfl, .inl ⟨rfl, _, SqL.of hq8⟩, _, rfl, q, _, _, rfl, rfl, hq8, by rw [List.length_map]; exact small1000 (by omega), ?_⟩
          refine ⟨_, _, _, ws ++ [w1], rfl, btH.fresh hq0, (hP8.upd npq).le (by omega), by rw [List.map_append]; exact upd_same, by simp [lw], ?_, ?_⟩
          · intro x hx
            rcases List.mem_append.mp hx with h | h
            · exact wd x h
            · rw [List.mem_singleton.mp h]; exact wd1
          · exact List.nodup_append.mpr ⟨ndw, by simp, fun a ha b hb e => (fun m => hin (decide_eq_true m)) (by rw [← List.mem_singleton.mp hb, ← e]; exact ha)⟩
      · refine iteF ?_
        obtain ⟨w1, rfl⟩ : ∃ z, z = w0 := ⟨_, rfl⟩
        obtain ⟨H8, rfl⟩ : ∃ z, z = H7 := ⟨_, rfl⟩
        have wd1 := wn
        have hP8 : PurseAt H8 p (B + 48 + 44 * i + 44) := hP7.le (by omega)
        have hq8 := hq7
        have btH := bt67
        refine ⟨_, rfl, _, rfl, q, _, rfl, .inl (SqL.of hq8), rfl, flat_strs ws, _, rfl, ?_⟩
        rw [if_neg Bool.false_ne_true, inV_strs]
        refine ite2 (fun hin => ?_) (fun hin => ?_)
        · refine ⟨"abcdefghijklmnopqrstuvwxyz", rfl, by decide +kernel, fun L hL => ?_⟩
          have hP9 := hP8.upd (q := L) (o := .lst ((SmR.signs "abcdefghijklmnopqrstuvwxyz").map V.str)) (hP8.ne hL)
          have hq9 : upd H8 L (.lst ((SmR.signs "abcdefghijklmnopqrstuvwxyz").map V.str)) q = some (.lst (ws.map V.str)) := (upd_ne (ne_of_none hq8 hL)).trans hq8
          have hL9 : upd H8 L (.lst ((SmR.signs "abcdefghijklmnopqrstuvwxyz").map V.str)) L = _ := upd_same
          have bt9 : But p H (upd H8 L (.lst ((SmR.signs "abcdefghijklmnopqrstuvwxyz").map V.str))) := btH.new hL
          generalize upd H8 L (.lst ((SmR.signs "abcdefghijklmnopqrstuvwxyz").map V.str)) = H9 at hP9 hq9 hL9 bt9 ⊢
          refine ⟨L, rfl, ⟨_, SqL.of hL9⟩, fun D hD => ?_⟩
          refine lc_list (K := K) (a := L) (xs := (SmR.signs "abcdefghijklmnopqrstuvwxyz").map V.str) (fun n H' => L2.Same H9 H' ∧ H' D = some (.lst ((((SmR.signs "abcdefghijklmnopqrstuvwxyz").take n).filter fun y => decide (y ∉ ws)).map V.str))) ?_ ?_ ?_ ?_
          · exact ⟨Same.new hD, upd_same⟩
          · rintro n H' _ ⟨sm, _⟩
            exact SqL.of (sm _ _ hL9)
          · rintro n x H' hx ⟨sm, hD'⟩
            obtain ⟨y, hy, rfl⟩ : ∃ y, (SmR.signs "abcdefghijklmnopqrstuvwxyz")[n]? = some y ∧ x = .str y := by
              rw [List.getElem?_map] at hx
              cases e : (SmR.signs "abcdefghijklmnopqrstuvwxyz")[n]? with
              | none => rw [e] at hx; cases hx
              | some y => rw [e] at hx; exact ⟨y, rfl, (Option.some.inj hx).symm⟩
            refine ⟨rfl, ?_⟩
            refine ⟨_, rfl, _, rfl, q, _, rfl, .inl (SqL.of (sm _ _ hq9)), rfl, flat_strs ws, _, rfl, ?_⟩
            rw [if_pos rfl, inV_strs]
            rw [take_next' hy, List.filter_append]
            by_cases hy2 : y ∈ ws
            · refine iteNS hy2 ⟨sm, ?_⟩
              rw [List.filter_cons_of_neg (by simpa using hy2), List.filter_nil, List.append_nil]
              exact hD'
            · rw [decide_eq_false hy2]
              refine ⟨_, rfl, _, hD', ?_, ?_, ?_⟩
              · rw [List.length_map]
                refine small1000 (Nat.le_trans (List.length_filter_le _ _) ?_)
                rw [List.length_take, abc_len]; omega
              · intro b o e
                rw [upd_ne (fun z => by rw [z, hD] at e; cases e)]
                exact sm _ _ e
              · rw [List.filter_cons_of_pos (by simpa using hy2), List.filter_nil, List.map_append]
                exact upd_same
          · rintro H' ⟨sm, hD'⟩
            rw [List.length_map, List.take_length] at hD'
            obtain ⟨y, ys, ey, wy, ny⟩ := abc_free (ws := ws) (by omega)
            rw [ey] at hD'
            refine ⟨D, _, 0, .str y, rfl, rfl, SqL.of hD', atI_nat (j := 0) rfl, ?_⟩
            refine at_name (σ' := [some (.ref p), some (.int m), some (.str base), some (.bl true), some (.int sp), some (.ref q), some (.int (0 + i)), some (.str y), x8]) rfl ?_
            have hqE := sm _ _ hq9
            have hPE := hP9.mono sm
            refine ⟨_, rfl, .inl ⟨rfl, _, SqL.of hqE⟩, _, rfl, q, _, _, rfl, rfl, hqE, by rw [List.length_map]; exact small1000 (by omega), ?_⟩
            refine ⟨_, _, _, ws ++ [y], rfl, (bt9.same sm).fresh hq0, (hPE.upd npq).le (by omega), by rw [List.map_append]; exact upd_same, by simp [lw], ?_, ?_⟩
            · intro x hx
              rcases List.mem_append.mp hx with h | h
              · exact wd x h
              · rw [List.mem_singleton.mp h]; exact wy
            · exact List.nodup_append.mpr ⟨ndw, by simp, fun a ha b hb e => ny (by rw [← List.mem_singleton.mp hb, ← e]; exact ha)⟩
        · refine ⟨_, rfl, .inl ⟨rfl, _, SqL.of hq8⟩, _, rfl, q, _, _, rfl, rfl, hq8, by rw [List.length_map]; exact small1000 (by omega), ?_⟩
          refine ⟨_, _, _, ws ++ [w1], rfl, btH.fresh hq0, (hP8.upd npq).le (by omega), by rw [List.map_append]; exact upd_same, by simp [lw], ?_, ?_⟩
          · intro x hx
            rcases List.mem_append.mp hx with h | h
            · exact wd x h
            · rw [List.mem_singleton.mp h]; exact wd1
          · exact List.nodup_append.mpr ⟨ndw, by simp, fun a ha b hb e => (fun m => hin (decide_eq_true m)) (by rw [← List.mem_singleton.mp hb, ← e]; exact ha)⟩
    · rintro σ H6 ⟨x6, x7, x8, ws, rfl, bt6, hP6, hq6, lw, wd, ndw⟩
      exact ⟨_, rfl, k q ws H6 hq0 bt6 (hP6.le (by omega)) hq6 (by omega) wd ndw⟩
end
end KT
set_option Elab.async false
set_option linter.all false
set_option maxRecDepth 100000
set_option maxHeartbeats 2000000
namespace DTp
open PySem PySem.Spec PySem.W PyProof.Rows L2
section
variable {prog : Program} {w : World} {A : Around} {E : Value → Shared → Prop} {s : Shared} {r d : Addr} {es : Array DictEntry} {ep : Nat}
theorem listI {Q : Value → Shared → Prop} (hh : A.handled = none) (hv : s.heap.IsItemsView r d) (hm : DT.Raw s.heap d es ep) (hn : es.size ≤ sizeLine)
    (hQ : ∀ h' tk acc c as, (∀ b o, s.heap.get? b = some o → h'.get? b = some o) → h'.get? s.heap.objs.size = some { cls := .type "list", dict := none, data := .seq acc c, slots := #[] } → as.length = es.size → DT.Made es s.heap.objs.size h' as → acc.toList = as.map Value.ref →
      Q (.ref s.heap.objs.size) { s with heap := h', toks := tk }) : wpAny (model prog w) A (call (.type "list") [.ref r]) Q E s := by
  refine callType_codes (Q₁ := fun obj s₁ => obj = .ref s.heap.objs.size ∧ s₁ = { s with heap := s.heap.push { cls := .type "list", data := .seq #[] } }) PySem.F.called_list (PySem.F.typeCall_list_1 _) PySem.F.entry_list_init (code_list_new _ ⟨rfl, rfl⟩) fun obj s₁ h₁ => ?_
  obtain ⟨rfl, rfl⟩ := h₁
  have hS : (s.heap.push { cls := .type "list", data := .seq #[] }).get? s.heap.objs.size = some { cls := .type "list", data := .seq #[] } := Heap.get?_push_size _ rfl
  have hr : r < s.heap.objs.size := let ⟨_, ho, _⟩ := hv; Heap.lt_size ho
  have hd : d < s.heap.objs.size := hm.lt
  have p0 : ∀ b o, s.heap.get? b = some o → (s.heap.push { cls := .type "list", data := .seq #[] }).get? b = some o := fun b o e => Heap.get?_push_of_some _ e
  refine ⟨⟨_, hS, rfl⟩, PySem.F.args_list_init_2 _ _, ?_⟩
  unfold Builtin.«list.__init__»
  refine wpAny_bind ?_
  unfold Builtin.List.listItems
  refine wpAny_bind (wpAny_seqItems hS rfl (wpAny_pure ?_))
  refine wpAny_bind (m := updateSeq s.heap.objs.size fun _ => #[]) (wpAny_updateSeq hS rfl ?_)
  have hS2 := Heap.get?_update_self (Obj.mapSeq (fun _ => (#[] : Array Value))) hS rfl
  have oth : ∀ b o, b ≠ s.heap.objs.size → s.heap.get? b = some o → ((s.heap.push { cls := .type "list", data := .seq #[] }).update s.heap.objs.size (Obj.mapSeq (fun _ => (#[] : Array Value)))).get? b = some o := fun b o hb e => (Heap.get?_update_other _ _ (Ne.symm hb)).trans (p0 b o e)
  refine wpAny_bind (wpAny_letGo ?_)
  refine DT.extI (es := es) (ep := ep) (A := A.in1) hh (let ⟨o, ho, x⟩ := hv; ⟨o, oth r o (Nat.ne_of_lt hr) ho, x⟩) (hm.at' fun o e => oth d o (Nat.ne_of_lt hd) e) _ (Nat.ne_of_gt hr) (Nat.ne_of_lt hd) .none _ hS2 (fun h' tk acc c as hk hS' hl hG hacc => ?_) hn
  exact ⟨rfl, hQ h' tk acc c as (fun b o e => hk b o (Nat.ne_of_lt (Heap.lt_size e)) (oth b o (Nat.ne_of_lt (Heap.lt_size e)) e)) hS' hl (hG.low (Nat.le_of_lt (Heap.lt_size hS2))) hacc⟩
end
/-- the entry's tuple -/
def ItT (H : Hp) : List Addr → List (List Key × V) → Prop := Paired fun t kv => ∃ b, H t = some (.tup [.ref b, kv.2]) ∧ H b = some (.tup (kv.1.map kV))
def rListIt : List V → Hp → VK → Prop := fun vs H Q => ∃ (p a : Addr) (kvs : List (List Key × V)), vs = [.ref p] ∧ H p = some (L2.DX.itemsO p a) ∧ Rd H a (.dT kvs) ∧
  ∀ (H' : Hp) (l : Addr) (ts : List Addr), Same H H' → H l = none → (∀ t ∈ ts, H t = none) → l ∉ ts → ts.Nodup → H' l = some (.lst (ts.map V.ref)) → ItT H' ts kvs → Q (.ref l) H'
section
variable {X : Cx}
theorem paired_of {α β : Type} {F : α → β → Prop} : ∀ {xs : List α} {ys : List β}, xs.length = ys.length → (∀ (i : Nat) (x : α) (y : β), xs[i]? = some x → ys[i]? = some y → F x y) → Paired F xs ys
  | [], [], _, _ => .nil
  | [], _ :: _, h, _ => by cases h
  | _ :: _, [], h, _ => by cases h
  | x :: xs, y :: ys, h, k => .cons (k 0 x y rfl rfl) (paired_of (Nat.succ.inj h) fun i a b e1 e2 => k (i + 1) a b e1 e2)
theorem vals_addrs : ∀ as : List Addr, Vals (as.map V.ref) (as.map Value.ref)
  | [] => .nil
  | a :: as => .cons (show RelV (V.ref a) (Value.ref a) from rfl) (vals_addrs as)
theorem cr_listIt (hc : X.calm = true) : CallR X (.type "list") rListIt := by
  intro pins s σ H vs us Q I r h
  obtain ⟨p, a, kvs, rfl, hp, ha, q⟩ := h
  rw [Vals.ref1 r]
  have view : s.heap.IsItemsView p a := (show ObjOk X.prog X.w H s.heap p (L2.DX.itemsO p a) from I.hok p _ hp).1
  obtain ⟨z, lo, xs, rel, o, es, ep, ho, hex, hdat, hes, his, hnd⟩ := dt_rd I.hok ha
  have l1 : kvs.length = xs.length := Paired.length rel
  have l2 : es.size = xs.length := size_of_entries hes
  refine listI (es := es) (ep := ep) (I.ok.hd hc) view ⟨o, ho, hex, hdat⟩ (by rw [l2, ← l1]; exact z) fun h' tk acc c as hk hS hl hG hacc => ?_
  have nd : as.Nodup := List.Pairwise.imp (fun h => Nat.ne_of_lt h) hG.rise
  have lak : as.length = kvs.length := by omega
  have hn0 : H s.heap.objs.size = none := I.hok.fresh (Nat.le_refl _)
  have up : ∀ b ∈ as, s.heap.objs.size < b := hG.above
  have fr : ∀ b ∈ as, H b = none := fun b hb => I.hok.fresh (Nat.le_of_lt (up b hb))
  -- what was made
  have pr : ∀ (j : Nat) (b : Addr), as[j]? = some b → ∃ (kv : List Key × V) (x : List Key × Addr × Value), kvs[j]? = some kv ∧ H x.2.1 = some (.tup (kv.1.map kV)) ∧ RelV kv.2 x.2.2 ∧ h'.get? b = some { cls := .type "tuple", data := .seq #[Value.ref x.2.1, x.2.2] } := by
    intro j b hj
    obtain ⟨e, he, hg⟩ := hG.pairs j b hj
    rw [entry_at hes j] at he
    cases hx : xs[j]? with
    | none => rw [hx] at he; cases he
    | some x =>
      rw [hx] at he
      have he : entryOfKey (tupleKind (mixKind X.prog X.w)) x = e := Option.some.inj he
      obtain ⟨kv, k1, r1, r2, r3⟩ := paired_at rel hx
      refine ⟨kv, x, k1, r2, r3, ?_⟩
      rw [hg, ← he]
      all_goals rfl
  have I1 : Inv X pins σ H { s with heap := h', toks := tk } := I.kept (t' := tk) hk
  have lz : (as.map V.ref).length ≤ sizeLine := by rw [List.length_map, lak]; exact z
  have I2 : Inv X pins σ (upd H s.heap.objs.size (.lst (as.map V.ref))) { s with heap := h', toks := tk } :=
    I1.take (h' := h') (t' := tk) (fun b ob _ e => e) (I.fpOk (Nat.le_refl _) hn0) ⟨lz, acc.toList, c, by rw [hacc]; exact vals_addrs as, by rw [Array.toArray_toList]; exact hS⟩
  obtain ⟨H2, I3, g, qt⟩ := L2.DX.takeT (P := fun b vs => ∃ (j : Nat) (kv : List Key × V) (kq : Addr), as[j]? = some b ∧ kvs[j]? = some kv ∧ vs = [.ref kq, kv.2] ∧ H kq = some (.tup (kv.1.map kV))) I as _ I2 nd fun b hb => by
    obtain ⟨j, hj⟩ := List.mem_iff_getElem?.mp hb
    obtain ⟨kv, x, k1, k2, k3, hg⟩ := pr j b hj
    refine ⟨Nat.le_of_lt (up b hb), ?_, [.ref x.2.1, kv.2], ⟨j, kv, x.2.1, hj, k1, rfl, k2⟩, fun H3 => ⟨(by rw [sizeLine_eq]; show 2 ≤ 16777216; omega), [Value.ref x.2.1, x.2.2], .cons (show RelV (V.ref x.2.1) (Value.ref x.2.1) from rfl) (.cons k3 .nil), ⟨_, hg, rfl, 0, rfl⟩⟩⟩
    rw [upd_ne (Nat.ne_of_gt (up b hb))]
    exact fr b hb
  have gr : Same H H2 := fun b o e => g b o (by rw [upd_ne (ne_of_none e hn0)]; exact e)
  refine ⟨.ref s.heap.objs.size, H2, I3, rfl, q H2 s.heap.objs.size as gr hn0 fr (fun hm => Nat.lt_irrefl _ (up _ hm)) nd (g _ _ upd_same) (paired_of lak fun i t kv e1 e2 => ?_)⟩
  obtain ⟨vs, ⟨j, kv', kq, j1, j2, ev, hkq⟩, hH⟩ := qt t (List.mem_of_getElem? e1)
  have eij : i = j := (List.getElem?_inj (List.getElem?_eq_some_iff.mp e1).1 nd).mp (e1.trans j1.symm)
  subst eij
  have ee : kv' = kv := Option.some.inj (j2.symm.trans e2)
  subst ee
  rw [ev] at hH
  exact ⟨kq, hH, gr _ _ hkq⟩
def tDispT (trs : List (TE × TE)) : TE := fun σ H Q => ∀ p, H p = none → tPairs trs σ (upd H p (.dT [])) fun ps H2 => H2 p = some (.dT []) ∧ ∃ kvs : List (List Key × V), Paired (fun (q : V × V) (kv : List Key × V) => ∃ b, q.1 = .ref b ∧ H2 b = some (.tup (kv.1.map kV)) ∧ q.2 = kv.2) ps kvs ∧
  kvs.length ≤ 15 ∧ Q (.ref p) (upd H2 p (.dT (mergeT [] kvs)))
theorem carriesT {P : Program} {w : World} {H : Hp} {h : Heap} (ok : HOk P w H h) : ∀ {ps : List (V × V)} {ws : List (Value × Value)} {kvs : List (List Key × V)}, VV ps ws → Paired (fun (q : V × V) (kv : List Key × V) => ∃ b, q.1 = .ref b ∧ H b = some (.tup (kv.1.map kV)) ∧ q.2 = kv.2) ps kvs →
    ∃ xs, CarriesH (TkK P w) h ws xs ∧ KT H kvs xs
  | _, _, _, .nil, .nil => ⟨[], True.intro, .nil⟩
  | _, _, _, .cons (b := b) r t, .cons (b := kv) q k => by
    obtain ⟨xs, c, kt⟩ := carriesT ok t k
    obtain ⟨a, e1, e2, e3⟩ := q
    obtain ⟨b1, b2⟩ := b
    have r1 := r.1
    have r2 := r.2
    rw [e1] at r1
    rw [e3] at r2
    cases (show b1 = Value.ref a from r1)
    exact ⟨(kv.1, a, b2) :: xs, ⟨rfl, rfl, key_of ok e2, c⟩, .cons ⟨rfl, e2, r2⟩ kt⟩
theorem pe_dispT {pos : Pos} {keys : List (Option Expr)} {values : List Expr} {trs : List (TE × TE)} (hu : X.A.units + 1 < cLine) (h : PPs X pos keys values trs) (hall : keys.all (·.isSome) = true) (hl : keys.length = values.length) (h0 : keys ≠ []) (h15 : keys.length ≤ 15) : PE X (.Dict keys values pos) (tDispT trs) := by
  refine ⟨fun pins s σ H Q I q => ?_⟩
  have hn := I.hok.fresh (Nat.le_refl s.heap.objs.size)
  have I1 := I.laid (a := s.heap.objs.size) (o := .dT []) (h' := s.heap.push { cls := .type "dict", data := .dict #[] }) (t' := s.toks) (fun _ _ q => Heap.get?_push_of_some _ q) (Nat.le_refl _) (dt_empty s.heap I.big)
  have hlen := pairTrees_length keys values X.env pos hall hl
  have ne0 : pairTrees keys values X.env pos ≠ [] := fun e => h0 (List.length_eq_zero_iff.mp (by rw [← hlen, e]; rfl))
  rw [arm_eval_Dict, zip_pairTrees keys values X.env pos hall hl, dictDisplay_pairs _ ne0 (by omega)]
  refine wpAny_bind (wpAny_standAt (wpAny_bind (wpAny_subDictH (knd := TkK X.prog X.w) (show X.A.units < cLine by omega) (by omega) (thn (h.run pins _ σ _ _ I1 (q _ hn)) fun ws s2 ⟨ps, H2, I2, rel, e, kvs, pk, lk, q2⟩ => ?_))))
  obtain ⟨xs, c, kt⟩ := carriesT (P := X.prog) (w := X.w) I2.hok rel pk
  obtain ⟨z, hd, ys, r0, dd⟩ := dt_of I2.hok e
  cases r0
  refine ⟨xs, c, dd, fun h' tk dk hs => wpAny_pure ?_⟩
  obtain ⟨o, es, ep, h1, h2, h3, h4, _, h5⟩ := dk
  have hz : (mergeT [] kvs).length ≤ sizeLine := by
    have e1 := length_mergeT kvs []
    rw [List.length_nil] at e1
    rw [sizeLine_eq]; omega
  refine ⟨.ref s.heap.objs.size, upd H2 s.heap.objs.size (.dT (mergeT [] kvs)), d_write (t' := tk) I2 (by rw [e]; exact True.intro) hs ⟨o, h1⟩ ⟨hz, hd, _, (KT.merge kt .nil).keeps fun b ys q => ?_, o, es, ep, h1, h2, h3, h4, h5⟩, rfl, q2⟩
  rw [upd_ne (ne_of q e (fun z => nomatch z))]
  exact q
end
end DTp
set_option Elab.async false
set_option linter.all false
set_option maxRecDepth 100000
set_option maxHeartbeats 4000000
namespace KT
open PySem L2 DTp
section
variable {ι : Type} {key : ι → List Key} {val : ι → V}
/-- just the entries of the indices in S, each once -/
structure TbG (S : ι → Prop) (key : ι → List Key) (val : ι → V) (kvs : List (List Key × V)) : Prop where
  nd : (kvs.map (·.1)).Nodup
  mem : ∀ e ∈ kvs, ∃ i, S i ∧ e = (key i, val i)
  has : ∀ i, S i → (key i, val i) ∈ kvs
theorem valV_mem {κ : Type} [DecidableEq κ] : ∀ {kvs : List (κ × V)} {k : κ} {v : V}, (kvs.map (·.1)).Nodup → (k, v) ∈ kvs → valV kvs k = some v
  | p :: kvs, k, v, nd, h => by
    rw [List.map_cons, List.nodup_cons] at nd
    rcases List.mem_cons.mp h with e | h
    · subst e
      exact valV_pos rfl
    · have n : ¬ p.1 = k := fun e => nd.1 (e ▸ List.mem_map.mpr ⟨(k, v), h, rfl⟩)
      rw [valV_neg n]
      exact valV_mem nd.2 h
theorem TbG.get {S : ι → Prop} {kvs : List (List Key × V)} (h : TbG S key val kvs) {i : ι} (hi : S i) : valV kvs (key i) = some (val i) := valV_mem h.nd (h.has i hi)
theorem TbG.nil : TbG (fun _ : ι => False) key val [] := ⟨.nil, fun e h => (by cases h), fun i h => h.elim⟩
theorem TbG.congr {S S' : ι → Prop} {kvs : List (List Key × V)} (h : TbG S key val kvs) (e : ∀ i, S i ↔ S' i) : TbG S' key val kvs :=
  ⟨h.nd, fun x hx => let ⟨i, a, b⟩ := h.mem x hx; ⟨i, (e i).mp a, b⟩, fun i hi => h.has i ((e i).mpr hi)⟩
theorem TbG.congrV {S : ι → Prop} {val' : ι → V} {kvs : List (List Key × V)} (h : TbG S key val kvs) (e : ∀ i, S i → val i = val' i) : TbG S key val' kvs :=
  ⟨h.nd, fun x hx => let ⟨i, a, b⟩ := h.mem x hx; ⟨i, a, by rw [← e i a]; exact b⟩, fun i hi => by rw [← e i hi]; exact h.has i hi⟩
theorem any_key {kvs : List (List Key × V)} {k : List Key} : (kvs.any fun kv => decide (kv.1 = k)) = true ↔ k ∈ kvs.map (·.1) := by
  rw [List.any_eq_true, List.mem_map]
  exact ⟨fun ⟨x, h1, h2⟩ => ⟨x, h1, of_decide_eq_true h2⟩, fun ⟨x, h1, h2⟩ => ⟨x, h1, decide_eq_true h2⟩⟩
theorem TbG.put {S : ι → Prop} {kvs : List (List Key × V)} (inj : ∀ i j, key i = key j → i = j) (h : TbG S key val kvs) (i : ι) : TbG (fun j => S j ∨ j = i) key val (putK kvs (key i) (val i)) := by
  unfold putK
  by_cases hk : (kvs.any fun kv => decide (kv.1 = key i)) = true
  · rw [if_pos hk]
    obtain ⟨e, he, ek⟩ := List.mem_map.mp (any_key.mp hk)
    obtain ⟨j, hj, rfl⟩ := h.mem e he
    have eji := inj j i ek
    subst eji
    have same : (kvs.map fun kv => if kv.1 = key j then (kv.1, val j) else kv) = kvs := by
      apply List.ext_getElem?
      intro n
      rw [List.getElem?_map]
      cases hx : kvs[n]? with
      | none => rfl
      | some x =>
        obtain ⟨l, hl, rfl⟩ := h.mem x (List.mem_of_getElem? hx)
        show some (if key l = key j then (key l, val j) else (key l, val l)) = _
        by_cases e : key l = key j
        · rw [if_pos e, inj l j e]
        · rw [if_neg e]
    rw [same]
    exact h.congr fun l => ⟨.inl, fun q => q.elim id fun e => e ▸ hj⟩
  · rw [if_neg hk]
    have nk : key i ∉ kvs.map (·.1) := fun q => hk (any_key.mpr q)
    refine ⟨?_, fun e he => ?_, fun j hj => ?_⟩
    · rw [List.map_append]
      refine List.nodup_append.mpr ⟨h.nd, by simp, fun a ha b hb e => nk ?_⟩
      have : b = key i := by simpa using hb
      rw [← this, ← e]
      exact ha
    · rcases List.mem_append.mp he with q | q
      · obtain ⟨j, a, b⟩ := h.mem e q
        exact ⟨j, .inl a, b⟩
      · exact ⟨i, .inr rfl, List.mem_singleton.mp q⟩
    · rcases hj with q | rfl
      · exact List.mem_append.mpr (.inl (h.has j q))
      · exact List.mem_append.mpr (.inr (List.mem_singleton.mpr rfl))
theorem TbG.merge (inj : ∀ i j, key i = key j → i = j) : ∀ (is : List ι) {S : ι → Prop} {kvs : List (List Key × V)}, TbG S key val kvs → TbG (fun j => S j ∨ j ∈ is) key val (mergeT kvs (is.map fun i => (key i, val i)))
  | [], _, _, h => h.congr fun j => by simp
  | i :: is, S, kvs, h => by
    have := TbG.merge inj is (h.put inj i)
    refine TbG.congr (S := fun j => (S j ∨ j = i) ∨ j ∈ is) this fun j => ?_
    rw [List.mem_cons, or_assoc]
theorem TbG.len {S : ι → Prop} {kvs : List (List Key × V)} (h : TbG S key val kvs) (is : List ι) (k : ∀ i, S i → i ∈ is) : kvs.length ≤ is.length := by
  have e := List.Nodup.length_le_of_subset h.nd (l₂ := is.map key) fun x hx => by
    obtain ⟨e, he, rfl⟩ := List.mem_map.mp hx
    obtain ⟨i, hi, rfl⟩ := h.mem e he
    exact List.mem_map.mpr ⟨i, k i hi, rfl⟩
  rwa [List.length_map, List.length_map] at e
/-- the indices, in the order of the entries -/
theorem TbG.idx {S : ι → Prop} : ∀ {kvs : List (List Key × V)}, TbG S key val kvs → ∃ is : List ι, kvs = is.map (fun i => (key i, val i)) ∧ ∀ i, S i → i ∈ is ∨ ∃ j ∈ is, key j = key i := by
  intro kvs h
  have pick : ∀ l : List (List Key × V), (∀ e ∈ l, ∃ i, S i ∧ e = (key i, val i)) → ∃ is : List ι, l = is.map (fun i => (key i, val i)) ∧ ∀ i ∈ is, S i := by
    intro l
    induction l with
    | nil => exact fun _ => ⟨[], rfl, fun i h => by cases h⟩
    | cons e l ih =>
      intro hm
      obtain ⟨i, hi, rfl⟩ := hm e List.mem_cons_self
      obtain ⟨is, e1, e2⟩ := ih fun x hx => hm x (List.mem_cons_of_mem _ hx)
      refine ⟨i :: is, by rw [e1]; rfl, fun j hj => ?_⟩
      rcases List.mem_cons.mp hj with rfl | q
      · exact hi
      · exact e2 j q
  obtain ⟨is, e1, e2⟩ := pick kvs h.mem
  refine ⟨is, e1, fun i hi => ?_⟩
  have m := h.has i hi
  rw [e1] at m
  obtain ⟨j, hj, ej⟩ := List.mem_map.mp m
  exact .inr ⟨j, hj, congrArg Prod.fst ej⟩
theorem TbG.idxs {S : ι → Prop} {kvs : List (List Key × V)} (inj : ∀ i j, key i = key j → i = j) (h : TbG S key val kvs) : ∃ is : List ι, kvs = is.map (fun i => (key i, val i)) ∧ is.Nodup ∧ ∀ i, S i ↔ i ∈ is := by
  obtain ⟨is, e1, e2⟩ := h.idx
  refine ⟨is, e1, ?_, fun i => ⟨fun hi => ?_, fun hi => ?_⟩⟩
  · have n := h.nd
    rw [e1, List.map_map] at n
    exact List.Pairwise.of_map _ (fun a b hab e => hab (congrArg _ e)) n
  · rcases e2 i hi with q | ⟨j, hj, e⟩
    · exact q
    · exact inj j i e ▸ hj
  · have m : (key i, val i) ∈ kvs := by rw [e1]; exact List.mem_map.mpr ⟨i, hi, rfl⟩
    obtain ⟨j, hj, e⟩ := h.mem _ m
    exact inj i j (congrArg Prod.fst e) ▸ hj
theorem TbG.ofIdx {is : List ι} (inj : ∀ i j, key i = key j → i = j) (nd : is.Nodup) : TbG (fun i => i ∈ is) key val (is.map fun i => (key i, val i)) where
  nd := by
    rw [List.map_map]
    exact List.Pairwise.map _ (fun a b hab e => hab (inj a b e)) nd
  mem := fun e he => let ⟨i, hi, q⟩ := List.mem_map.mp he; ⟨i, hi, q.symm⟩
  has := fun i hi => List.mem_map.mpr ⟨i, hi, rfl⟩
end
/-- a list of entries with different keys, put one by one -/
theorem mergeT_nd : ∀ (more kvs : List (List Key × V)), ((kvs ++ more).map (·.1)).Nodup → mergeT kvs more = kvs ++ more
  | [], kvs, _ => by rw [List.append_nil]; rfl
  | p :: more, kvs, h => by
    have nk : ¬ (kvs.any fun kv => decide (kv.1 = p.1)) = true := fun q => by
      have m := any_key.mp q
      rw [List.map_append] at h
      exact (List.nodup_append.mp h).2.2 _ m p.1 (by simp) rfl
    have e : putK kvs p.1 p.2 = kvs ++ [p] := by unfold putK; rw [if_neg nk]
    show mergeT (putK kvs p.1 p.2) more = _
    rw [e, mergeT_nd more (kvs ++ [p]) (by rw [List.append_assoc]; exact h), List.append_assoc]
    rfl
abbrev Ix := Nat × Nat
def keyI (i : Ix) : List Key := [.inl i.1, .inl i.2]
def valI (t : Nat → Nat → Nat) (i : Ix) : V := .int (t i.1 i.2)
theorem keyI_inj (i j : Ix) (h : keyI i = keyI j) : i = j := by
  obtain ⟨a, b⟩ := i
  obtain ⟨c, d⟩ := j
  simp only [keyI, List.cons.injEq, Sum.inl.injEq, and_true] at h
  obtain ⟨h1, h2⟩ := h
  have e1 : a = c := by omega
  have e2 : b = d := by omega
  rw [e1, e2]
abbrev Sq (n : Nat) : Ix → Prop := fun i => i.1 < n ∧ i.2 < n
/-- the dict at a is the table t of n -/
def TabAt (H : Hp) (a : Addr) (n : Nat) (t : Nat → Nat → Nat) : Prop := ∃ kvs, H a = some (.dT kvs) ∧ TbG (Sq n) keyI (valI t) kvs
/-- t stays below n and is free of brackets -/
structure Free (n : Nat) (t : Nat → Nat → Nat) : Prop where
  lt : ∀ x y, x < n → y < n → t x y < n
  as : ∀ x y z, x < n → y < n → z < n → t (t x y) z = t x (t y z)
def freeB (n : Nat) (t : Nat → Nat → Nat) : Bool := (List.range n).all fun x => (List.range n).all fun y => decide (t x y < n) && (List.range n).all fun z => decide (t (t x y) z = t x (t y z))
theorem free_of {n : Nat} {t : Nat → Nat → Nat} (h : freeB n t = true) : Free n t := by
  unfold freeB at h
  simp only [List.all_eq_true, List.mem_range, Bool.and_eq_true, decide_eq_true_eq] at h
  exact ⟨fun x y hx hy => (h x hx y hy).1, fun x y z hx hy hz => (h x hx y hy).2 z hz⟩
theorem Free.turn {n : Nat} {t : Nat → Nat → Nat} (h : Free n t) : Free n fun x y => t y x := ⟨fun x y hx hy => h.lt y x hy hx, fun x y z hx hy hz => (h.as z y x hz hy hx).symm⟩
theorem sq_list {n : Nat} : ∀ i, Sq n i → i ∈ (List.range n).flatMap fun x => (List.range n).map fun y => (x, y) := fun i h => List.mem_flatMap.mpr ⟨i.1, List.mem_range.mpr h.1, List.mem_map.mpr ⟨i.2, List.mem_range.mpr h.2, rfl⟩⟩
theorem sq_len {n : Nat} {t : Nat → Nat → Nat} {kvs : List (List Key × V)} {S : Ix → Prop} {key : Ix → List Key} {val : Ix → V} (h : TbG S key val kvs) (k : ∀ i, S i → Sq n i) : kvs.length ≤ n * n := by
  refine Nat.le_trans (h.len _ fun i hi => sq_list i (k i hi)) (Nat.le_of_eq ?_)
  simp [List.length_flatMap, List.map_const', List.sum_replicate_nat]
end KT
set_option linter.all false
set_option maxRecDepth 100000
namespace KT
def plainT (way n x y : Nat) : Nat :=
  let f (r : Nat) : Nat := r - (n - 1) * (if r > n then 1 else 0)
  match way with
  | 0 => x
  | 1 => y
  | 2 => 0
  | 3 => min x y
  | 4 => (x + y) % n
  | 5 => min (x + y + 1) (n - 1)
  | 6 => if x = y then x else 0
  | _ => min (f (f (f (f (x + y + 2))))) n - 1
def wideT (t : Nat → Nat → Nat) (n late x y : Nat) : Nat := if x < n ∧ y < n then t x y else if late = 0 then n else if x = n then y else x
def twofoldT (a b : Nat → Nat → Nat) (x y : Nat) : Nat := 2 * a (x / 2) (y / 2) + b (x % 2) (y % 2)
def twinT (t : Nat → Nat → Nat) (n w x y : Nat) : Nat := t (if x < n then x else w) (if y < n then y else w)
def leadT (t : Nat → Nat → Nat) (n x y : Nat) : Nat := if x < n ∧ y < n then t x y else if y = n then (if x = n then n else 0) else y
def cyclicT (n lead x y : Nat) : Nat := (if x + y + 2 ≤ n then x + y + 2 else lead + (x + y + 2 - lead) % (n - lead + 1)) - 1
theorem plain_free : ∀ way, way < 8 → ∀ n, n < 5 → 0 < n → freeB n (plainT way n) = true := by decide +kernel
theorem wide_free : ∀ way, way < 8 → ∀ n, n < 4 → 0 < n → ∀ late, late < 2 → freeB (n + 1) (wideT (plainT way n) n late) = true := by decide +kernel
theorem twofold_free : ∀ way, way < 8 → ∀ v, v < 8 → freeB 4 (twofoldT (plainT way 2) (plainT v 2)) = true := by decide +kernel
theorem twin_free : ∀ way, way < 8 → ∀ n, n < 4 → 0 < n → ∀ w, w < n → freeB (n + 1) (twinT (plainT way n) n w) = true := by decide +kernel
theorem lead_free : ∀ way, way < 3 → 0 < way → ∀ n, n < 4 → 0 < n → freeB (n + 1) (leadT (plainT way n) n) = true := by decide +kernel
theorem cyclic_free : ∀ n, n < 5 → 0 < n → ∀ lead, lead < n + 1 → 0 < lead → freeB n (cyclicT n lead) = true := by decide +kernel
end KT
set_option Elab.async false
set_option linter.all false
set_option maxRecDepth 100000
set_option maxHeartbeats 4000000
namespace KT
open PySem L2 PyProof.Rows DTp
section
variable {P : Program} {w : World} {K : PySem.W.Frag} {mg : Str → Option Value} {base : Heap}
def spPlain : Sp := fun vs H Q _ => ∃ way n : Nat, vs = [.int way, .int n] ∧ way < 8 ∧ 0 < n ∧ n < 5 ∧ ∀ (d : Addr) (H' : Hp), L2.Same H H' → H d = none → TabAt H' d n (plainT way n) → Q (.ref d) H'
abbrev nPlain : List Str := ["_law_way", "_law_many", "_law_told", "_law_x", "_law_y", "_law_raised", "_law_spin", "_law_some"]
theorem scPlain : FnScope nPlain ["_law_way", "_law_many"] (defScope sPlain) := ⟨rfl, rfl, rfl, by decide +kernel, rfl, by decide +kernel, by decide +kernel⟩
/-- one entry more, row by row -/
theorem TbG.next {val : Ix → V} {kvs : List (List Key × V)} {n x y : Nat} (h : TbG (fun i : Ix => (i.1 < x ∧ i.2 < n) ∨ (i.1 = x ∧ i.2 < y)) keyI val kvs) : TbG (fun i : Ix => (i.1 < x ∧ i.2 < n) ∨ (i.1 = x ∧ i.2 < y + 1)) keyI val (putK kvs (keyI (x, y)) (val (x, y))) :=
  (h.put keyI_inj (x, y)).congr fun i => by
    obtain ⟨a, b⟩ := i
    simp only [Prod.mk.injEq]
    omega
theorem TbG.row {val : Ix → V} {kvs : List (List Key × V)} {n x : Nat} (h : TbG (fun i : Ix => (i.1 < x ∧ i.2 < n) ∨ (i.1 = x ∧ i.2 < n)) keyI val kvs) : TbG (fun i : Ix => i.1 < x + 1 ∧ i.2 < n) keyI val kvs :=
  h.congr fun i => by
    obtain ⟨a, b⟩ := i
    show (a < x ∧ b < n ∨ a = x ∧ b < n) ↔ (a < x + 1 ∧ b < n)
    omega
theorem TbG.row0 {val : Ix → V} {kvs : List (List Key × V)} {n x : Nat} (h : TbG (fun i : Ix => i.1 < x ∧ i.2 < n) keyI val kvs) : TbG (fun i : Ix => (i.1 < x ∧ i.2 < n) ∨ (i.1 = x ∧ i.2 < 0)) keyI val kvs :=
  h.congr fun i => by
    obtain ⟨a, b⟩ := i
    show (a < x ∧ b < n) ↔ (a < x ∧ b < n ∨ a = x ∧ b < 0)
    omega
theorem TbG.few {val : Ix → V} {kvs : List (List Key × V)} {S : Ix → Prop} (h : TbG S keyI val kvs) (k : ∀ i, S i → i.1 < 5 ∧ i.2 < 5) : kvs.length < sizeLine := by
  have e := sq_len (n := 5) (t := fun _ _ => 0) h k
  rw [sizeLine_eq]; omega
def liftR (n r : Nat) : Nat := r - (n - 1) * (if r > n then 1 else 0)
def plainL (n x y r : Nat) : List Int := [0 + (x : Int), 0 + (y : Int), 0, if (0 + (y : Int)) < 0 + x then 0 + (y : Int) else 0 + x, (0 + (x : Int) + (0 + (y : Int))).fmod n, if (n : Int) - 1 < 0 + x + (0 + y) + 1 then (n : Int) - 1 else 0 + x + (0 + y) + 1,
  if x = y then 0 + (x : Int) else 0, (if (n : Int) < r then (n : Int) else r) - 1]
def plainB : Bool := (List.range 5).all fun n => n == 0 || (List.range n).all fun x => (List.range n).all fun y => (List.range 8).all fun way => decide ((plainL n x y (Nat.repeat (liftR n) 4 (x + y + 2)))[way]? = some ((plainT way n x y : Nat) : Int))
theorem plainB_ok : plainB = true := by decide +kernel
theorem plain_val (n : Nat) (n5 : n < 5) (n0 : 0 < n) (x : Nat) (hx : x < n) (y : Nat) (hy : y < n) (way : Nat) (hw : way < 8) : (plainL n x y (Nat.repeat (liftR n) 4 (x + y + 2)))[way]? = some ((plainT way n x y : Nat) : Int) := by
  have h := plainB_ok
  unfold plainB at h
  simp only [List.all_eq_true, List.mem_range, Bool.or_eq_true, decide_eq_true_eq] at h
  rcases h n n5 with z | z
  · have : n = 0 := by simpa using z
    omega
  · exact z x hx y hy way hw
theorem ok_plain {f : Addr} {fd : FuncData} (F : Fun K "_law_plain_table" "_law_plain_table" sPlain f fd) (T : Blt mg) : FnOk P w K mg base CX0 1 f fd ["_law_way", "_law_many"] spPlain := by
  refine F.ok scPlain (fun vs H Q E h => ?_) (fun cdv A outer s H vs Q E hr h => ?_)
  · obtain ⟨way, n, rfl, _⟩ := h
    rfl
  · obtain ⟨way, n, rfl, hw, n0, n5, k⟩ := h
    have nd := scPlain.nd
    refine ⟨_, pss_cons (ps_set (i := 2) nd rfl (Or.inl rfl) pe_dnewT)
      (pss_cons (ps_for PassesOwn.never rfl (pi_range1 rfl T.range (pa_cons (pv 1) pa_nil)) (pg_name (i := 3) nd rfl (Or.inl rfl))
        (pss_one (ps_for PassesOwn.never rfl (pi_range1 rfl T.range (pa_cons (pv 1) pa_nil)) (pg_name (i := 4) nd rfl (Or.inl rfl))
          (pss_cons (ps_set (i := 5) nd rfl (Or.inl rfl) (pe_op op_add (pe_op op_add (pv 3) (pv 4)) pe_int))
          (pss_cons (ps_for PassesOwn.never rfl (pi_range1 rfl T.range (pa_cons pe_int pa_nil)) (pg_name (i := 6) nd rfl (Or.inl rfl))
            (pss_one (ps_set (i := 5) nd rfl (Or.inl rfl) (pe_op op_sub (pv 5) (pe_op op_mul (pe_op op_sub (pv 1) pe_int) (pe_callTy call_int1 (by rfl) T.int boot_int (pa_cons (pe_cmpR op_gt (pv 5) (pv 1) (nomark _)) pa_nil)))))))
          (pss_cons (ps_set (i := 7) nd rfl (Or.inl rfl) (pe_lst (pa_cons (pv 3) (pa_cons (pv 4) (pa_cons pe_int (pa_cons (pe_callB (call_min2 rfl) (by rfl) T.min (by decide +kernel) (pa_cons (pv 3) (pa_cons (pv 4) pa_nil)))
              (pa_cons (pe_op op_modN (pe_callTy call_int1 (by rfl) T.int boot_int (pa_cons (pe_op op_add (pv 3) (pv 4)) pa_nil)) (pv 1))
              (pa_cons (pe_callB (call_min2 rfl) (by rfl) T.min (by decide +kernel) (pa_cons (pe_op op_add (pe_op op_add (pv 3) (pv 4)) pe_int) (pa_cons (pe_op op_sub (pv 1) pe_int) pa_nil))) pa_nil))))))))
          (pss_one (ps_dput (hu_of hr) (pv 2) (pe_tup (pa_cons (pv 3) (pa_cons (pv 4) pa_nil)))
            (pe_ix ix_list (pe_op op_cat (pv 7) (pe_lst (pa_cons (pe_ifExp (pt_cmpR op_eq (pv 3) (pv 4) (nomark _)) (pv 3) pe_int)
              (pa_cons (pe_op op_sub (pe_callB (call_min2 rfl) (by rfl) T.min (by decide +kernel) (pa_cons (pv 5) (pa_cons (pv 1) pa_nil))) pe_int) pa_nil)))) (pv 0) (fun _ _ => rfl)) rfl))))))))
      (pss_one (ps_ret (pv 2)))), ?_⟩
    refine fun d hd => ?_
    refine ⟨_, rfl, _, rfl, by omega, by omega, ?_⟩
    refine for_range (lo := 0) (n := (n : Int).toNat) (fun x σ H' => ∃ (x3 x4 x5 x6 x7 : Option V) (kvs : List (List Key × V)), σ = [some (.int way), some (.int n), some (.ref d), x3, x4, x5, x6, x7] ∧ L2.Same H H' ∧ H' d = some (.dT kvs) ∧ TbG (fun i : Ix => i.1 < x ∧ i.2 < n) keyI (valI (plainT way n)) kvs) ?_ ?_ ?_
    · exact ⟨_, _, _, _, _, [], rfl, Same.new hd, upd_same, TbG.nil.congr fun i => by simp⟩
    · rintro x σ H1 hx ⟨x3, x4, x5, x6, x7, kvs, rfl, s1, hd1, tb⟩
      refine ⟨_, rfl, _, rfl, by omega, by omega, ?_⟩
      refine for_range (lo := 0) (n := (n : Int).toNat) (fun y σ H' => ∃ (x4 x5 x6 x7 : Option V) (kvs : List (List Key × V)), σ = [some (.int way), some (.int n), some (.ref d), some (.int (0 + x)), x4, x5, x6, x7] ∧ L2.Same H H' ∧ H' d = some (.dT kvs) ∧ TbG (fun i : Ix => (i.1 < x ∧ i.2 < n) ∨ (i.1 = x ∧ i.2 < y)) keyI (valI (plainT way n)) kvs) ?_ ?_ ?_
      · exact ⟨_, _, _, _, kvs, rfl, s1, hd1, tb.row0⟩
      · rintro y σ H2 hy ⟨x4, x5, x6, x7, kvs, rfl, s2, hd2, tb⟩
        have hxn : x < n := by omega
        have hyn : y < n := by omega
        refine ⟨_, rfl, _, rfl, _, _, rfl, rfl, _, _, rfl, rfl, ?_⟩
        refine at_name (σ' := [some (.int way), some (.int n), some (.ref d), some (.int (0 + x)), some (.int (0 + y)), some (.int ((x + y + 2 : Nat) : Int)), x6, x7]) (by
          have e : (0 + (x : Int)) + (0 + (y : Int)) + 2 = ((x + y + 2 : Nat) : Int) := by omega
          rw [← e]
          rfl) ?_
        refine ⟨4, rfl, by decide, by decide, ?_⟩
        refine for_range (lo := 0) (n := 4) (fun j σ H' => H' = H2 ∧ ∃ (x6 : Option V) (r : Nat), σ = [some (.int way), some (.int n), some (.ref d), some (.int (0 + x)), some (.int (0 + y)), some (.int (r : Int)), x6, x7] ∧ r ≤ 10 ∧ 2 ≤ r ∧ r = Nat.repeat (liftR n) j (x + y + 2)) ?_ ?_ ?_
        · exact ⟨rfl, _, _, rfl, by omega, by omega, rfl⟩
        · rintro j σ H3 hj ⟨rfl, x6, r, rfl, r10, r2, er⟩
          refine ⟨_, rfl, _, rfl, _, _, rfl, rfl, _, rfl, _, rfl, _, _, rfl, rfl, .inr ⟨_, rfl, _, _, rfl, rfl, .inl ⟨by omega, by omega⟩, _, _, rfl, rfl, ?_⟩⟩
          have er2 : (r : Int) - ((n : Int) - 1) * (if decide ((r : Int) > n) = true then 1 else 0) = (liftR n r : Int) := by
            unfold liftR
            by_cases z : r > n
            · rw [if_pos (by simpa using z), if_pos z, Nat.mul_one, Int.mul_one]; omega
            · rw [if_neg (by simpa using z), if_neg z]; simp
          refine ⟨rfl, some (.int (0 + (j : Nat))), liftR n r, ?_, ?_, ?_, ?_⟩
          · rw [← er2]; rfl
          · unfold liftR; omega
          · unfold liftR
            split
            · rw [Nat.mul_one]; omega
            · omega
          · rw [er]; rfl
        · rintro σ H3 ⟨rfl, x6, r, rfl, r10, r2, er⟩
          refine ⟨_, rfl, _, rfl, _, rfl, _, rfl, _, _, rfl, ?_⟩
          refine ⟨_, rfl, _, rfl, _, _, rfl, rfl, .inl ⟨_, rfl, _, rfl, _, _, rfl, rfl, by omega, ?_⟩⟩
          refine ⟨_, rfl, _, rfl, _, _, rfl, rfl, _, _, rfl, rfl, _, rfl, _, _, rfl, rfl, _, _, rfl, ?_⟩
          refine ⟨(by show 6 ≤ sizeLine; decide), fun l hl => ?_⟩
          have e3 := Same.new (H := H3) (o := .lst [V.int (0 + x), V.int (0 + y), V.int 0, V.int (if (0 + (y : Int)) < 0 + x then 0 + y else 0 + x), V.int ((0 + (x : Int) + (0 + y)).fmod n), V.int (if (n : Int) - 1 < 0 + x + (0 + y) + 1 then n - 1 else 0 + x + (0 + y) + 1)]) hl
          have e4 : upd H3 l (.lst [V.int (0 + x), V.int (0 + y), V.int 0, V.int (if (0 + (y : Int)) < 0 + x then 0 + y else 0 + x), V.int ((0 + (x : Int) + (0 + y)).fmod n), V.int (if (n : Int) - 1 < 0 + x + (0 + y) + 1 then n - 1 else 0 + x + (0 + y) + 1)]) l = _ := upd_same
          refine at_name (σ' := [some (.int way), some (.int n), some (.ref d), some (.int (0 + x)), some (.int (0 + y)), some (.int (r : Int)), x6, some (.ref l)]) rfl ?_
          generalize upd H3 l (.lst [V.int (0 + x), V.int (0 + y), V.int 0, V.int (if (0 + (y : Int)) < 0 + x then 0 + y else 0 + x), V.int ((0 + (x : Int) + (0 + y)).fmod n), V.int (if (n : Int) - 1 < 0 + x + (0 + y) + 1 then n - 1 else 0 + x + (0 + y) + 1)]) = H4 at e3 e4 ⊢
          have hd4 := e3 _ _ hd2
          refine ⟨_, rfl, _, rfl, _, rfl, rfl, _, rfl, ?_⟩
          have exy : decide (V.int (0 + (x : Int)) = V.int (0 + (y : Int))) = decide (x = y) := by
            rw [Int.zero_add, Int.zero_add]
            by_cases z : x = y
            · simp [z]
            · have : ¬ (x : Int) = (y : Int) := by omega
              simp [z, this]
          rw [exy]
          refine ite2 (fun hxy => ?_) (fun hxy => ?_)
          · refine ⟨_, rfl, ?_⟩
            refine ⟨_, rfl, _, rfl, _, _, rfl, _, _, rfl, rfl, (by show 2 ≤ sizeLine; decide), fun l2 hl2 => ?_⟩
            have f1 := Same.new (H := H4) (o := .lst [V.int (0 + (x : Int)), V.int ((if (n : Int) < r then (n : Int) else r) - 1)]) hl2
            have f2 : upd H4 l2 (.lst [V.int (0 + (x : Int)), V.int ((if (n : Int) < r then (n : Int) else r) - 1)]) l2 = _ := upd_same
            generalize upd H4 l2 (.lst [V.int (0 + (x : Int)), V.int ((if (n : Int) < r then (n : Int) else r) - 1)]) = H5 at f1 f2 ⊢
            refine ⟨l, l2, _, _, rfl, rfl, f1 _ _ e4, f2, (by show 6 + 2 ≤ sizeLine; decide), fun l3 hl3 => ?_⟩
            have g1 := Same.new (H := H5) (o := .lst ((plainL n x y r).map V.int)) hl3
            have g2 : upd H5 l3 (.lst ((plainL n x y r).map V.int)) l3 = _ := upd_same
            have pl := plain_val n n5 n0 x hxn y hyn way hw
            rw [← er] at pl
            have eqL : ([V.int (0 + (x : Int)), V.int (0 + (y : Int)), V.int 0, V.int (if (0 + (y : Int)) < 0 + x then 0 + (y : Int) else 0 + x), V.int ((0 + (x : Int) + (0 + (y : Int))).fmod n), V.int (if (n : Int) - 1 < 0 + x + (0 + y) + 1 then (n : Int) - 1 else 0 + x + (0 + y) + 1)] ++ [V.int (0 + (x : Int)), V.int ((if (n : Int) < r then (n : Int) else r) - 1)] : List V) = (plainL n x y r).map V.int := by
              unfold plainL
              rw [if_pos (of_decide_eq_true hxy)]
              rfl
            rw [eqL]
            generalize upd H5 l3 (.lst ((plainL n x y r).map V.int)) = H6 at g1 g2 ⊢
            refine ⟨_, rfl, l3, _, (way : Int), .int (plainT way n x y), rfl, rfl, SqL.of g2, atI_nat (by rw [List.getElem?_map, pl]; rfl), ?_⟩
            refine ⟨_, rfl, _, rfl, _, rfl, (by show 2 ≤ sizeLine; decide), fun t ht => ?_⟩
            have h1 := Same.new (H := H6) (o := .tup [V.int (0 + x), V.int (0 + y)]) ht
            have h2 : upd H6 t (.tup [V.int (0 + x), V.int (0 + y)]) t = some (.tup ((keyI (x, y)).map kV)) := by
              rw [upd_same]
              show _ = some (HO.tup [V.int (x : Int), V.int (y : Int)])
              rw [Int.zero_add, Int.zero_add]
            have hd6 : upd H6 t (.tup [V.int (0 + x), V.int (0 + y)]) d = some (.dT kvs) := h1 _ _ (g1 _ _ (f1 _ _ hd4))
            refine ⟨d, _, rfl, DPut.t (k := keyI (x, y)) hd6 h2 (tb.few fun i hi => by omega), ?_⟩
            refine ⟨_, _, _, _, _, rfl, fun b o e => ?_, upd_same, tb.next⟩
            rw [upd_ne (ne_of_none e hd)]
            exact h1 _ _ (g1 _ _ (f1 _ _ (e3 _ _ (s2 _ _ e))))
          · refine ⟨_, rfl, _, rfl, _, _, rfl, _, _, rfl, rfl, (by show 2 ≤ sizeLine; decide), fun l2 hl2 => ?_⟩
            have f1 := Same.new (H := H4) (o := .lst [V.int (0 : Int), V.int ((if (n : Int) < r then (n : Int) else r) - 1)]) hl2
            have f2 : upd H4 l2 (.lst [V.int (0 : Int), V.int ((if (n : Int) < r then (n : Int) else r) - 1)]) l2 = _ := upd_same
            generalize upd H4 l2 (.lst [V.int (0 : Int), V.int ((if (n : Int) < r then (n : Int) else r) - 1)]) = H5 at f1 f2 ⊢
            refine ⟨l, l2, _, _, rfl, rfl, f1 _ _ e4, f2, (by show 6 + 2 ≤ sizeLine; decide), fun l3 hl3 => ?_⟩
            have g1 := Same.new (H := H5) (o := .lst ((plainL n x y r).map V.int)) hl3
            have g2 : upd H5 l3 (.lst ((plainL n x y r).map V.int)) l3 = _ := upd_same
            have pl := plain_val n n5 n0 x hxn y hyn way hw
            rw [← er] at pl
            have eqL : ([V.int (0 + (x : Int)), V.int (0 + (y : Int)), V.int 0, V.int (if (0 + (y : Int)) < 0 + x then 0 + (y : Int) else 0 + x), V.int ((0 + (x : Int) + (0 + (y : Int))).fmod n), V.int (if (n : Int) - 1 < 0 + x + (0 + y) + 1 then (n : Int) - 1 else 0 + x + (0 + y) + 1)] ++ [V.int (0 : Int), V.int ((if (n : Int) < r then (n : Int) else r) - 1)] : List V) = (plainL n x y r).map V.int := by
              unfold plainL
              rw [if_neg (fun e => hxy (decide_eq_true e))]
              rfl
            rw [eqL]
            generalize upd H5 l3 (.lst ((plainL n x y r).map V.int)) = H6 at g1 g2 ⊢
            refine ⟨_, rfl, l3, _, (way : Int), .int (plainT way n x y), rfl, rfl, SqL.of g2, atI_nat (by rw [List.getElem?_map, pl]; rfl), ?_⟩
            refine ⟨_, rfl, _, rfl, _, rfl, (by show 2 ≤ sizeLine; decide), fun t ht => ?_⟩
            have h1 := Same.new (H := H6) (o := .tup [V.int (0 + x), V.int (0 + y)]) ht
            have h2 : upd H6 t (.tup [V.int (0 + x), V.int (0 + y)]) t = some (.tup ((keyI (x, y)).map kV)) := by
              rw [upd_same]
              show _ = some (HO.tup [V.int (x : Int), V.int (y : Int)])
              rw [Int.zero_add, Int.zero_add]
            have hd6 : upd H6 t (.tup [V.int (0 + x), V.int (0 + y)]) d = some (.dT kvs) := h1 _ _ (g1 _ _ (f1 _ _ hd4))
            refine ⟨d, _, rfl, DPut.t (k := keyI (x, y)) hd6 h2 (tb.few fun i hi => by omega), ?_⟩
            refine ⟨_, _, _, _, _, rfl, fun b o e => ?_, upd_same, tb.next⟩
            rw [upd_ne (ne_of_none e hd)]
            exact h1 _ _ (g1 _ _ (f1 _ _ (e3 _ _ (s2 _ _ e))))
      · rintro σ H2 ⟨x4, x5, x6, x7, kvs, rfl, s2, hd2, tb⟩
        have hn : (n : Int).toNat = n := by omega
        rw [hn] at tb
        exact ⟨_, _, _, _, _, kvs, rfl, s2, hd2, tb.row⟩
    · rintro σ H1 ⟨x3, x4, x5, x6, x7, kvs, rfl, s1, hd1, tb⟩
      have hn : (n : Int).toNat = n := by omega
      rw [hn] at tb
      exact ⟨_, rfl, k d H1 s1 hd ⟨kvs, hd1, tb⟩⟩
end
end KT
set_option Elab.async false
set_option linter.all false
set_option maxRecDepth 100000
set_option maxHeartbeats 4000000
namespace KT
open PySem L2 PyProof.Rows DTp
section
variable {P : Program} {w : World} {K : PySem.W.Frag} {mg : Str → Option Value} {base : Heap}
section
variable {ι : Type} {key : ι → List Key} {val : ι → V}
/-- each an entry's tuple -/
def PrG (key : ι → List Key) (val : ι → V) (H : Hp) : List Addr → List ι → Prop := Paired fun p i => ∃ b, H p = some (.tup [.ref b, val i]) ∧ H b = some (.tup ((key i).map kV))
theorem PrG.mono {H H' : Hp} (s : L2.Same H H') {ps : List Addr} {is : List ι} (h : PrG key val H ps is) : PrG key val H' ps is := Paired.mapP h fun _ _ ⟨b, h1, h2⟩ => ⟨b, s _ _ h1, s _ _ h2⟩
theorem PrG.prT {H : Hp} : ∀ {ps : List Addr} {is : List ι}, PrG key val H ps is → PrT K H ps (is.map fun i => (key i, val i))
  | _, _, .nil => .nil
  | _, _, .cons ⟨b, h1, h2⟩ t => .cons ⟨b, SqT.of h1, h2⟩ (PrG.prT t)
theorem lc_pairs {J : It} {n : Nat} {G : Hp → Prop} {Y : Nat → Hp → V → Hp → Prop} (W : Walk J n G Y) {g : TG} {te : TE} {vs : List Nat} {σ : L2.St} {H1 : Hp} {D : Addr} {Qd : Hp → Prop} (is : List ι) (hn : is.length = n) (few : n ≤ 1000) (hD : H1 D = none) (stay : ∀ H', L2.Same H1 H' → G H')
    (step : ∀ i x H H' j (R : VK), is[i]? = some j → L2.Same H1 H → Y i H x H' → (∀ t b H3, L2.Same H H3 → H3 t = some (.tup [.ref b, val j]) → H3 b = some (.tup ((key j).map kV)) → R (.ref t) H3) → g x (wipe σ vs) H' fun σ2 H2 => wipe σ2 vs = wipe σ vs ∧ te σ2 H2 R)
    (done : ∀ H' ps, L2.Same H1 H' → H' D = some (.lst (ps.map V.ref)) → PrG key val H' ps is → Qd H') :
    ∃ W : Nat → Nat → Hp → Prop, (∃ m, W 0 m (upd H1 D (.lst []))) ∧ ∀ i m H, W i m H →
      (J.stop i H ∧ Qd H) ∨ (J.go i H ∧ ∃ Nx : Hp → Prop, (∀ H', Nx H' → ∃ m', m' < m ∧ W (i + 1) m' H') ∧ ∀ x H', J.yld i H x H' → g x (wipe σ vs) H' fun σ2 H2 => wipe σ2 vs = wipe σ vs ∧ tYes σ2 H2 fun b H3 =>
        if b = true then te σ2 H3 fun y H4 => ∃ acc, H4 D = some (.lst acc) ∧ acc.length < sizeLine ∧ Nx (upd H4 D (.lst (acc ++ [y]))) else Nx H3) := by
  refine lc_it W (tt := tYes) (fun i H' => L2.Same H1 H' ∧ ∃ ps : List Addr, H' D = some (.lst (ps.map V.ref)) ∧ PrG key val H' ps (is.take i)) ⟨Same.new hD, [], upd_same, .nil⟩ (fun i H' _ h => stay H' h.1) (fun i x H H' hi h y => ?_) (fun H' h => ?_)
  · obtain ⟨s1, ps, hDp, pr⟩ := h
    have hi' : i < is.length := by omega
    have ej : is[i]? = some is[i] := List.getElem?_eq_getElem hi'
    refine step i x H H' is[i] _ ej s1 y fun t b H3 s2 ht hb => ⟨_, s2 _ _ hDp, ?_, ?_, ps ++ [t], ?_, ?_⟩
    · rw [List.length_map, Paired.length pr, List.length_take]
      exact small1000 (by omega)
    · intro c o e
      rw [upd_ne (ne_of_none e hD)]
      exact s2 _ _ (s1 _ _ e)
    · rw [List.map_append]
      exact upd_same
    · rw [take_next' ej]
      have keep : ∀ c u, H3 c = some (.tup u) → (upd H3 D (.lst (ps.map V.ref ++ [V.ref t]))) c = some (.tup u) := fun c u e => by
        rw [upd_ne (ne_of e (s2 _ _ hDp) (fun z => nomatch z))]
        exact e
      exact Paired.snoc (Paired.mapP pr fun p i ⟨b', h1, h2⟩ => ⟨b', keep _ _ (s2 _ _ h1), keep _ _ (s2 _ _ h2)⟩) ⟨b, keep _ _ ht, keep _ _ hb⟩
  · obtain ⟨s1, ps, hDp, pr⟩ := h
    rw [← hn, List.take_length] at pr
    exact done H' ps s1 hDp pr
end
/-- dict([(key, told[key]) for key in told]) -/
theorem rd_copy {ι : Type} {key : ι → List Key} {val : ι → V} {i j : Nat} {σ : L2.St} {H : Hp} {Q : VK} {d : Addr} {S : ι → Prop} {kvs : List (List Key × V)} (inj : ∀ a b, key a = key b → a = b) (hi : σ[i]? = some (some (.ref d))) (hij : i ≠ j) (hj : j < σ.length) (hd : H d = some (.dT kvs)) (tb : TbG S key val kvs) (few : kvs.length ≤ 1000)
    (k : ∀ q H' kvs', L2.Same H H' → H q = none → H' q = some (.dT kvs') → TbG S key val kvs' → Q (.ref q) H') :
    tCB (rDictT K) (tCons (tLockE (tLc (iKeys (tVar i)) (gName j) tYes (tTup (tCons (tVar j) (tCons (tDGet (tVar i) (tVar j)) tNil))) [j])) tNil) σ H Q := by
  obtain ⟨is, e1, ndi, e2⟩ := tb.idxs inj
  have li : is.length = kvs.length := by rw [e1, List.length_map]
  refine ⟨d, .dT kvs, hd, trivial, fun od => ?_⟩
  refine ⟨_, hi, d, od, rfl, .inr ⟨kvs, upd_same, fun D hD => ?_⟩⟩
  have nDd : D ≠ d := fun e => by rw [e, upd_same] at hD; cases hD
  have hD0 : H D = none := by rw [upd_ne nDd] at hD; exact hD
  refine lc_pairs (key := key) (val := val) walk_keysT is li few hD (fun H' s => s _ _ upd_same) ?_ ?_
  · rintro n x H1 H1' a R ha s1 ⟨rfl, kk, v, q, hk, rfl, hq⟩ kR
    have ek : kvs[n]? = some (key a, val a) := by rw [e1, List.getElem?_map, ha]; rfl
    rw [hk] at ek
    have ek := Option.some.inj ek
    obtain ⟨rfl, rfl⟩ : kk = key a ∧ v = val a := ⟨congrArg Prod.fst ek, congrArg Prod.snd ek⟩
    have sj : ((wipe σ [j]).set j (some (V.ref q)))[j]? = some (some (.ref q)) := by
      rw [List.getElem?_set_self (by rw [wipe_length]; exact hj)]
    have si : ((wipe σ [j]).set j (some (V.ref q)))[i]? = some (some (.ref d)) := by
      rw [List.getElem?_set_ne hij.symm, wipe_out (by simpa using hij)]
      exact hi
    refine ⟨?_, ?_⟩
    · show (((σ.set j none).set j (some (V.ref q))).set j none) = σ.set j none
      rw [List.set_set, List.set_set]
    · have gt : valV kvs (key a) = some (val a) := tb.get ((e2 a).mpr (List.mem_of_getElem? ha))
      refine ⟨_, sj, _, si, _, sj, d, val a, rfl, .inr ⟨kvs, key a, q, .inr ⟨od, s1 _ _ upd_same⟩, rfl, hq, gt.symm⟩, (by show 2 ≤ sizeLine; decide), fun t ht => ?_⟩
      exact kR t q _ (Same.new ht) upd_same ((upd_ne (ne_of_none hq ht)).trans hq)
  · intro H1 ps s1 hDp pr
    have hdl : H1 d = some (.frz od (.dT kvs)) := s1 _ _ upd_same
    refine ⟨hdl, D, ps, is.map (fun i => (key i, val i)), rfl, SqL.of ((upd_ne nDd).trans hDp), ?_, fun q hq => ?_⟩
    · refine PrG.prT (key := key) (val := val) (is := is) (Paired.mapP pr fun p a ⟨b, h1, h2⟩ => ⟨b, ?_, ?_⟩)
      · rw [upd_ne (ne_of h1 hdl (fun z => nomatch z))]; exact h1
      · rw [upd_ne (ne_of h2 hdl (fun z => nomatch z))]; exact h2
    · have same : L2.Same H (upd H1 d (.dT kvs)) := fun b o e => by
        by_cases hb : b = d
        · rw [hb] at e ⊢
          rw [hd] at e
          rw [upd_same]; exact e
        · rw [upd_ne hb]
          exact s1 _ _ ((upd_ne hb).trans e)
      have hq0 := same.free hq
      refine k q _ (mergeT [] (is.map fun i => (key i, val i))) (fun b o e => ?_) hq0 upd_same ?_
      · rw [upd_ne (ne_of_none e hq0)]
        exact same _ _ e
      · exact (TbG.merge inj is TbG.nil).congr fun a => by rw [false_or]; exact (e2 a).symm
end
end KT
set_option Elab.async false
set_option linter.all false
set_option maxRecDepth 100000
set_option maxHeartbeats 4000000
namespace KT
open PySem L2 PyProof.Rows DTp
section
variable {P : Program} {w : World} {K : PySem.W.Frag} {mg : Str → Option Value} {base : Heap}
theorem u2 {u : Nat} (h : u + 64 < cLine) : u + 2 < cLine := by omega
/-- d[x, y] of a table -/
theorem TabAt.get {H : Hp} {a b : Addr} {n x y : Nat} {t : Nat → Nat → Nat} (h : TabAt H a n t) (hx : x < n) (hy : y < n) (hb : H b = some (.tup [V.int (x : Int), V.int (y : Int)])) : DGet H a (.ref b) (some (.int (t x y))) := by
  obtain ⟨kvs, h1, h2⟩ := h
  have e := DGet.t (k := keyI (x, y)) h1 hb
  rw [h2.get (i := (x, y)) ⟨hx, hy⟩] at e
  exact e
theorem TabAt.mono {H H' : Hp} {a : Addr} {n : Nat} {t : Nat → Nat → Nat} (s : L2.Same H H') (h : TabAt H a n t) : TabAt H' a n t := let ⟨kvs, h1, h2⟩ := h; ⟨kvs, s _ _ h1, h2⟩
def spWide : Sp := fun vs H Q _ => ∃ (d : Addr) (n late : Nat) (t : Nat → Nat → Nat), vs = [.ref d, .int n, .int late] ∧ 0 < n ∧ n < 4 ∧ TabAt H d n t ∧ ∀ (q : Addr) (H' : Hp), L2.Same H H' → H q = none → TabAt H' q (n + 1) (wideT t n late) → Q (.ref q) H'
abbrev nWide : List Str := ["_law_told", "_law_many", "_law_way", "_law_found", "_law_key", "_law_x"]
theorem scWide : FnScope nWide ["_law_told", "_law_many", "_law_way"] (defScope sWide) := ⟨rfl, rfl, rfl, by decide +kernel, rfl, by decide +kernel, by decide +kernel⟩
theorem ok_wide {f : Addr} {fd : FuncData} (F : Fun K "_law_wide_table" "_law_wide_table" sWide f fd) (T : Blt mg) (hdi : mg "dict" = none) : FnOk P w K mg base CX0 1 f fd ["_law_told", "_law_many", "_law_way"] spWide := by
  refine F.ok scWide (fun vs H Q E h => ?_) (fun cdv A outer s H vs Q E hr h => ?_)
  · obtain ⟨d, n, late, t, rfl, _⟩ := h
    rfl
  · obtain ⟨d, n, late, t, rfl, n0, n4, ⟨kvs, hd, tb⟩, k⟩ := h
    have nd := scWide.nd
    have hun := hr.units
    refine ⟨_, pss_cons (ps_set (i := 3) nd rfl (Or.inl rfl) (pe_callTy (cr_dictT rfl (u2 hr.units)) (by rfl) hdi (by decide +kernel) (pa_cons (pe_lock (pe_lc (own := [("_law_key", 4)]) (g := gName 4) (tt := tYes) (te := tTup (tCons (tVar 4) (tCons (tDGet (tVar 0) (tVar 4)) tNil))) rfl nd (pi_keys (pv 0))
          (blkOk_by (own := [("_law_key", 4)]) (N := nWide) (sc := defScope sWide) (by decide +kernel)) (fun _ _ _ _ _ => pg_name (i := 4) nd rfl (Or.inl rfl)) (fun _ _ _ _ _ => pts_nil) (fun _ _ _ _ _ => pe_tup (pa_cons (pv 4) (pa_cons (pe_dget (hu_of hr) (pv 0) (pv 4) (fun _ _ => rfl)) pa_nil))))) pa_nil)))
      (pss_cons (ps_for PassesOwn.never rfl (pi_range1 rfl T.range (pa_cons (pe_op op_add (pv 1) pe_int) pa_nil)) (pg_name (i := 5) nd rfl (Or.inl rfl))
        (pss_cons (ps_dput (hu_of hr) (pv 3) (pe_tup (pa_cons (pv 5) (pa_cons (pv 1) pa_nil))) (pe_ifExp (pt_cmpR op_eq (pv 2) pe_int (nomark _)) (pv 1) (pv 5)) rfl)
          (pss_one (ps_dput (hu_of hr) (pv 3) (pe_tup (pa_cons (pv 1) (pa_cons (pv 5) pa_nil))) (pe_ifExp (pt_cmpR op_eq (pv 2) pe_int (nomark _)) (pv 1) (pv 5)) rfl))))
      (pss_one (ps_ret (pv 3)))), ?_⟩
    refine rd_copy (key := keyI) (val := valI t) keyI_inj rfl (by decide) (by show 4 < 6; decide) hd tb (by have := tb.few fun i hi => ⟨by omega, by omega⟩; have e := sq_len (n := 4) (t := t) tb fun i hi => ⟨by omega, by omega⟩; omega) fun q H1 kvs1 s1 hq0 hq1 tb1 => ?_
    refine at_name (σ' := [some (.ref d), some (.int n), some (.int late), some (.ref q), none, none]) rfl ?_
    refine ⟨_, rfl, _, _, rfl, rfl, _, rfl, by omega, by omega, ?_⟩
    refine for_range (lo := 0) (n := ((n : Int) + 1).toNat) (fun x σ H' => ∃ (x5 : Option V) (kvs : List (List Key × V)), σ = [some (.ref d), some (.int n), some (.int late), some (.ref q), none, x5] ∧ L2.Same H H' ∧ H' q = some (.dT kvs) ∧ TbG (fun i : Ix => Sq n i ∨ (i.1 < x ∧ i.2 = n) ∨ (i.1 = n ∧ i.2 < x)) keyI (valI (wideT t n late)) kvs) ?_ ?_ ?_
    · refine ⟨_, kvs1, rfl, s1, hq1, (tb1.congrV fun i hi => ?_).congr fun i => ?_⟩
      · show V.int _ = V.int _
        unfold wideT
        rw [if_pos hi]
      · obtain ⟨a, b⟩ := i
        show (a < n ∧ b < n) ↔ ((a < n ∧ b < n) ∨ (a < 0 ∧ b = n) ∨ (a = n ∧ b < 0))
        omega
    · rintro x σ H2 hx ⟨x5, kvs2, rfl, s2, hq2, tb2⟩
      have hxn : x ≤ n := by omega
      have v1 : wideT t n late x n = if late = 0 then n else x := by
        unfold wideT
        rw [if_neg (by omega)]
        split
        · rfl
        · split
          · rename_i e; rw [e]
          · rfl
      have v2 : wideT t n late n x = if late = 0 then n else x := by
        unfold wideT
        rw [if_neg (by omega), if_pos rfl]
      have el : decide (V.int (late : Int) = V.int 0) = decide (late = 0) := by
        by_cases z : late = 0
        · simp [z]
        · have : ¬ (late : Int) = 0 := by omega
          simp [z, this]
      refine at_name (σ' := [some (.ref d), some (.int n), some (.int late), some (.ref q), none, some (.int (x : Int))]) (by rw [Int.zero_add]; rfl) ?_
      refine ⟨_, rfl, rfl, _, rfl, ?_⟩
      rw [el]
      by_cases z : late = 0
      · rw [decide_eq_true z]
        rw [if_pos z] at v1 v2
        refine iteT ⟨_, rfl, ?_⟩
        refine ⟨_, rfl, _, rfl, _, rfl, (by show 2 ≤ sizeLine; decide), fun t1 ht1 => ?_⟩
        have a1 := Same.new (H := H2) (o := .tup [V.int (x : Int), V.int (n : Int)]) ht1
        have a2 : upd H2 t1 (.tup [V.int (x : Int), V.int (n : Int)]) t1 = some (.tup ((keyI (x, n)).map kV)) := upd_same
        generalize upd H2 t1 (.tup [V.int (x : Int), V.int (n : Int)]) = G1 at a1 a2 ⊢
        have tb3 := tb2.put keyI_inj (x, n)
        rw [show valI (wideT t n late) (x, n) = V.int (n : Nat) from congrArg (fun k : Nat => V.int k) v1] at tb3
        refine ⟨q, _, rfl, DPut.t (k := keyI (x, n)) (a1 _ _ hq2) a2 (tb2.few fun i hi => by omega), ?_⟩
        have b1 : upd G1 q (.dT (putK kvs2 (keyI (x, n)) (V.int (n : Nat)))) q = _ := upd_same
        have b2 : L2.Same H (upd G1 q (.dT (putK kvs2 (keyI (x, n)) (V.int (n : Nat))))) := fun b o e => by
          rw [upd_ne (ne_of_none e hq0)]
          exact a1 _ _ (s2 _ _ e)
        generalize putK kvs2 (keyI (x, n)) (V.int (n : Nat)) = kvs3 at tb3 b1 b2 ⊢
        generalize upd G1 q (.dT kvs3) = G2 at b1 b2 ⊢
        refine ⟨_, rfl, rfl, _, rfl, ?_⟩
        rw [el, decide_eq_true z]
        refine iteT ⟨_, rfl, ?_⟩
        refine ⟨_, rfl, _, rfl, _, rfl, (by show 2 ≤ sizeLine; decide), fun t2 ht2 => ?_⟩
        have c1 := Same.new (H := G2) (o := .tup [V.int (n : Int), V.int (x : Int)]) ht2
        have c2 : upd G2 t2 (.tup [V.int (n : Int), V.int (x : Int)]) t2 = some (.tup ((keyI (n, x)).map kV)) := upd_same
        generalize upd G2 t2 (.tup [V.int (n : Int), V.int (x : Int)]) = G3 at c1 c2 ⊢
        have tb4 := tb3.put keyI_inj (n, x)
        rw [show valI (wideT t n late) (n, x) = V.int (n : Nat) from congrArg (fun k : Nat => V.int k) v2] at tb4
        refine ⟨q, _, rfl, DPut.t (k := keyI (n, x)) (c1 _ _ b1) c2 (tb3.few fun i hi => hi.elim (fun h => by omega) fun h => by rw [h]; exact ⟨by show x < 5; omega, by show n < 5; omega⟩), ?_⟩
        refine ⟨_, _, rfl, fun b o e => ?_, upd_same, tb4.congr fun i => ?_⟩
        · rw [upd_ne (ne_of_none e hq0)]
          exact c1 _ _ (b2 _ _ e)
        · obtain ⟨a, b⟩ := i
          simp only [Prod.mk.injEq]
          omega
      · rw [decide_eq_false z]
        rw [if_neg z] at v1 v2
        refine iteF ⟨_, rfl, ?_⟩
        refine ⟨_, rfl, _, rfl, _, rfl, (by show 2 ≤ sizeLine; decide), fun t1 ht1 => ?_⟩
        have a1 := Same.new (H := H2) (o := .tup [V.int (x : Int), V.int (n : Int)]) ht1
        have a2 : upd H2 t1 (.tup [V.int (x : Int), V.int (n : Int)]) t1 = some (.tup ((keyI (x, n)).map kV)) := upd_same
        generalize upd H2 t1 (.tup [V.int (x : Int), V.int (n : Int)]) = G1 at a1 a2 ⊢
        have tb3 := tb2.put keyI_inj (x, n)
        rw [show valI (wideT t n late) (x, n) = V.int (x : Nat) from congrArg (fun k : Nat => V.int k) v1] at tb3
        refine ⟨q, _, rfl, DPut.t (k := keyI (x, n)) (a1 _ _ hq2) a2 (tb2.few fun i hi => by omega), ?_⟩
        have b1 : upd G1 q (.dT (putK kvs2 (keyI (x, n)) (V.int (x : Nat)))) q = _ := upd_same
        have b2 : L2.Same H (upd G1 q (.dT (putK kvs2 (keyI (x, n)) (V.int (x : Nat))))) := fun b o e => by
          rw [upd_ne (ne_of_none e hq0)]
          exact a1 _ _ (s2 _ _ e)
        generalize putK kvs2 (keyI (x, n)) (V.int (x : Nat)) = kvs3 at tb3 b1 b2 ⊢
        generalize upd G1 q (.dT kvs3) = G2 at b1 b2 ⊢
        refine ⟨_, rfl, rfl, _, rfl, ?_⟩
        rw [el, decide_eq_false z]
        refine iteF ⟨_, rfl, ?_⟩
        refine ⟨_, rfl, _, rfl, _, rfl, (by show 2 ≤ sizeLine; decide), fun t2 ht2 => ?_⟩
        have c1 := Same.new (H := G2) (o := .tup [V.int (n : Int), V.int (x : Int)]) ht2
        have c2 : upd G2 t2 (.tup [V.int (n : Int), V.int (x : Int)]) t2 = some (.tup ((keyI (n, x)).map kV)) := upd_same
        generalize upd G2 t2 (.tup [V.int (n : Int), V.int (x : Int)]) = G3 at c1 c2 ⊢
        have tb4 := tb3.put keyI_inj (n, x)
        rw [show valI (wideT t n late) (n, x) = V.int (x : Nat) from congrArg (fun k : Nat => V.int k) v2] at tb4
        refine ⟨q, _, rfl, DPut.t (k := keyI (n, x)) (c1 _ _ b1) c2 (tb3.few fun i hi => hi.elim (fun h => by omega) fun h => by rw [h]; exact ⟨by show x < 5; omega, by show n < 5; omega⟩), ?_⟩
        refine ⟨_, _, rfl, fun b o e => ?_, upd_same, tb4.congr fun i => ?_⟩
        · rw [upd_ne (ne_of_none e hq0)]
          exact c1 _ _ (b2 _ _ e)
        · obtain ⟨a, b⟩ := i
          simp only [Prod.mk.injEq]
          omega
    · rintro σ H2 ⟨x5, kvs2, rfl, s2, hq2, tb2⟩
      refine ⟨_, rfl, k q H2 s2 hq0 ⟨kvs2, hq2, tb2.congr fun i => ?_⟩⟩
      obtain ⟨a, b⟩ := i
      have : ((n : Int) + 1).toNat = n + 1 := by omega
      rw [this]
      show ((a < n ∧ b < n) ∨ (a < n + 1 ∧ b = n) ∨ (a = n ∧ b < n + 1)) ↔ (a < n + 1 ∧ b < n + 1)
      omega
end
end KT
set_option Elab.async false
set_option linter.all false
set_option maxRecDepth 100000
set_option maxHeartbeats 4000000
namespace KT
open PySem L2 PyProof.Rows DTp
section
variable {P : Program} {w : World} {K : PySem.W.Frag} {mg : Str → Option Value} {base : Heap}
def spLead : Sp := fun vs H Q _ => ∃ (d : Addr) (n : Nat) (t : Nat → Nat → Nat), vs = [.ref d, .int n] ∧ 0 < n ∧ n < 4 ∧ TabAt H d n t ∧ ∀ (q : Addr) (H' : Hp), L2.Same H H' → H q = none → TabAt H' q (n + 1) (leadT t n) → Q (.ref q) H'
abbrev nLead : List Str := ["_law_told", "_law_many", "_law_found", "_law_key", "_law_x"]
theorem scLead : FnScope nLead ["_law_told", "_law_many"] (defScope sLeading) := ⟨rfl, rfl, rfl, by decide +kernel, rfl, by decide +kernel, by decide +kernel⟩
theorem ok_lead {f : Addr} {fd : FuncData} (F : Fun K "_law_leading_table" "_law_leading_table" sLeading f fd) (T : Blt mg) (hdi : mg "dict" = none) : FnOk P w K mg base CX0 1 f fd ["_law_told", "_law_many"] spLead := by
  refine F.ok scLead (fun vs H Q E h => ?_) (fun cdv A outer s H vs Q E hr h => ?_)
  · obtain ⟨d, n, t, rfl, _⟩ := h
    rfl
  · obtain ⟨d, n, t, rfl, n0, n4, ⟨kvs, hd, tb⟩, k⟩ := h
    have nd := scLead.nd
    refine ⟨_, pss_cons (ps_set (i := 2) nd rfl (Or.inl rfl) (pe_callTy (cr_dictT rfl (u2 hr.units)) (by rfl) hdi (by decide +kernel) (pa_cons (pe_lock (pe_lc (own := [("_law_key", 3)]) (g := gName 3) (tt := tYes) (te := tTup (tCons (tVar 3) (tCons (tDGet (tVar 0) (tVar 3)) tNil))) rfl nd (pi_keys (pv 0))
          (blkOk_by (own := [("_law_key", 3)]) (N := nLead) (sc := defScope sLeading) (by decide +kernel)) (fun _ _ _ _ _ => pg_name (i := 3) nd rfl (Or.inl rfl)) (fun _ _ _ _ _ => pts_nil) (fun _ _ _ _ _ => pe_tup (pa_cons (pv 3) (pa_cons (pe_dget (hu_of hr) (pv 0) (pv 3) (fun _ _ => rfl)) pa_nil))))) pa_nil)))
      (pss_cons (ps_for PassesOwn.never rfl (pi_range1 rfl T.range (pa_cons (pe_op op_add (pv 1) pe_int) pa_nil)) (pg_name (i := 4) nd rfl (Or.inl rfl))
        (pss_cons (ps_dput (hu_of hr) (pv 2) (pe_tup (pa_cons (pv 4) (pa_cons (pv 1) pa_nil))) (pe_ifExp (pt_cmpR op_eq (pv 4) (pv 1) (nomark _)) (pv 1) pe_int) rfl)
          (pss_one (ps_dput (hu_of hr) (pv 2) (pe_tup (pa_cons (pv 1) (pa_cons (pv 4) pa_nil))) (pv 4) rfl))))
      (pss_one (ps_ret (pv 2)))), ?_⟩
    refine rd_copy (key := keyI) (val := valI t) keyI_inj rfl (by decide) (by show 3 < 5; decide) hd tb (by have e := sq_len (n := 4) (t := t) tb fun i hi => ⟨by omega, by omega⟩; omega) fun q H1 kvs1 s1 hq0 hq1 tb1 => ?_
    refine at_name (σ' := [some (.ref d), some (.int n), some (.ref q), none, none]) rfl ?_
    refine ⟨_, rfl, _, _, rfl, rfl, _, rfl, by omega, by omega, ?_⟩
    refine for_range (lo := 0) (n := ((n : Int) + 1).toNat) (fun x σ H' => ∃ (x5 : Option V) (kvs : List (List Key × V)), σ = [some (.ref d), some (.int n), some (.ref q), none, x5] ∧ L2.Same H H' ∧ H' q = some (.dT kvs) ∧ TbG (fun i : Ix => Sq n i ∨ (i.1 < x ∧ i.2 = n) ∨ (i.1 = n ∧ i.2 < x)) keyI (valI (leadT t n)) kvs) ?_ ?_ ?_
    · refine ⟨_, kvs1, rfl, s1, hq1, (tb1.congrV fun i hi => ?_).congr fun i => ?_⟩
      · show V.int _ = V.int _
        unfold leadT
        rw [if_pos hi]
      · obtain ⟨a, b⟩ := i
        show (a < n ∧ b < n) ↔ ((a < n ∧ b < n) ∨ (a < 0 ∧ b = n) ∨ (a = n ∧ b < 0))
        omega
    · rintro x σ H2 hx ⟨x5, kvs2, rfl, s2, hq2, tb2⟩
      have hxn : x ≤ n := by omega
      have v1 : leadT t n x n = if x = n then n else 0 := by
        unfold leadT
        rw [if_neg (by omega), if_pos rfl]
      have v2 : leadT t n n x = x := by
        unfold leadT
        rw [if_neg (by omega)]
        split
        · rename_i e; rw [if_pos rfl, e]
        · rfl
      have el : decide (V.int (x : Int) = V.int (n : Int)) = decide (x = n) := by
        by_cases z : x = n
        · simp [z]
        · have : ¬ (x : Int) = n := by omega
          simp [z, this]
      refine at_name (σ' := [some (.ref d), some (.int n), some (.ref q), none, some (.int (x : Int))]) (by rw [Int.zero_add]; rfl) ?_
      refine ⟨_, rfl, _, rfl, rfl, _, rfl, ?_⟩
      rw [el]
      by_cases z : x = n
      · rw [decide_eq_true z]
        rw [if_pos z] at v1
        refine iteT ⟨_, rfl, ?_⟩
        refine ⟨_, rfl, _, rfl, _, rfl, (by show 2 ≤ sizeLine; decide), fun t1 ht1 => ?_⟩
        have a1 := Same.new (H := H2) (o := .tup [V.int (x : Int), V.int (n : Int)]) ht1
        have a2 : upd H2 t1 (.tup [V.int (x : Int), V.int (n : Int)]) t1 = some (.tup ((keyI (x, n)).map kV)) := upd_same
        generalize upd H2 t1 (.tup [V.int (x : Int), V.int (n : Int)]) = G1 at a1 a2 ⊢
        have tb3 := tb2.put keyI_inj (x, n)
        rw [show valI (leadT t n) (x, n) = V.int (n : Nat) from congrArg (fun k : Nat => V.int k) v1] at tb3
        refine ⟨q, _, rfl, DPut.t (k := keyI (x, n)) (a1 _ _ hq2) a2 (tb2.few fun i hi => by omega), ?_⟩
        have b1 : upd G1 q (.dT (putK kvs2 (keyI (x, n)) (V.int (n : Nat)))) q = _ := upd_same
        have b2 : L2.Same H (upd G1 q (.dT (putK kvs2 (keyI (x, n)) (V.int (n : Nat))))) := fun b o e => by
          rw [upd_ne (ne_of_none e hq0)]
          exact a1 _ _ (s2 _ _ e)
        have b3 : upd G1 q (.dT (putK kvs2 (keyI (x, n)) (V.int (n : Int)))) = upd G1 q (.dT (putK kvs2 (keyI (x, n)) (V.int (n : Nat)))) := rfl
        rw [b3]
        generalize putK kvs2 (keyI (x, n)) (V.int (n : Nat)) = kvs3 at tb3 b1 b2 ⊢
        generalize upd G1 q (.dT kvs3) = G2 at b1 b2 ⊢
        refine ⟨_, rfl, _, rfl, _, rfl, _, rfl, (by show 2 ≤ sizeLine; decide), fun t2 ht2 => ?_⟩
        have c1 := Same.new (H := G2) (o := .tup [V.int (n : Int), V.int (x : Int)]) ht2
        have c2 : upd G2 t2 (.tup [V.int (n : Int), V.int (x : Int)]) t2 = some (.tup ((keyI (n, x)).map kV)) := upd_same
        generalize upd G2 t2 (.tup [V.int (n : Int), V.int (x : Int)]) = G3 at c1 c2 ⊢
        have tb4 := tb3.put keyI_inj (n, x)
        rw [show valI (leadT t n) (n, x) = V.int (x : Nat) from congrArg (fun k : Nat => V.int k) v2] at tb4
        refine ⟨q, _, rfl, DPut.t (k := keyI (n, x)) (c1 _ _ b1) c2 (tb3.few fun i hi => hi.elim (fun h => by omega) fun h => by rw [h]; exact ⟨by show x < 5; omega, by show n < 5; omega⟩), ?_⟩
        refine ⟨_, _, rfl, fun b o e => ?_, upd_same, tb4.congr fun i => ?_⟩
        · rw [upd_ne (ne_of_none e hq0)]
          exact c1 _ _ (b2 _ _ e)
        · obtain ⟨a, b⟩ := i
          simp only [Prod.mk.injEq]
          omega
      · rw [decide_eq_false z]
        rw [if_neg z] at v1
        refine iteF ?_
        refine ⟨_, rfl, _, rfl, _, rfl, (by show 2 ≤ sizeLine; decide), fun t1 ht1 => ?_⟩
        have a1 := Same.new (H := H2) (o := .tup [V.int (x : Int), V.int (n : Int)]) ht1
        have a2 : upd H2 t1 (.tup [V.int (x : Int), V.int (n : Int)]) t1 = some (.tup ((keyI (x, n)).map kV)) := upd_same
        generalize upd H2 t1 (.tup [V.int (x : Int), V.int (n : Int)]) = G1 at a1 a2 ⊢
        have tb3 := tb2.put keyI_inj (x, n)
        rw [show valI (leadT t n) (x, n) = V.int (0 : Nat) from congrArg (fun k : Nat => V.int k) v1] at tb3
        refine ⟨q, _, rfl, DPut.t (k := keyI (x, n)) (a1 _ _ hq2) a2 (tb2.few fun i hi => by omega), ?_⟩
        have b1 : upd G1 q (.dT (putK kvs2 (keyI (x, n)) (V.int (0 : Nat)))) q = _ := upd_same
        have b2 : L2.Same H (upd G1 q (.dT (putK kvs2 (keyI (x, n)) (V.int (0 : Nat))))) := fun b o e => by
          rw [upd_ne (ne_of_none e hq0)]
          exact a1 _ _ (s2 _ _ e)
        have b3 : upd G1 q (.dT (putK kvs2 (keyI (x, n)) (V.int (0 : Int)))) = upd G1 q (.dT (putK kvs2 (keyI (x, n)) (V.int (0 : Nat)))) := rfl
        rw [b3]
        generalize putK kvs2 (keyI (x, n)) (V.int (0 : Nat)) = kvs3 at tb3 b1 b2 ⊢
        generalize upd G1 q (.dT kvs3) = G2 at b1 b2 ⊢
        refine ⟨_, rfl, _, rfl, _, rfl, _, rfl, (by show 2 ≤ sizeLine; decide), fun t2 ht2 => ?_⟩
        have c1 := Same.new (H := G2) (o := .tup [V.int (n : Int), V.int (x : Int)]) ht2
        have c2 : upd G2 t2 (.tup [V.int (n : Int), V.int (x : Int)]) t2 = some (.tup ((keyI (n, x)).map kV)) := upd_same
        generalize upd G2 t2 (.tup [V.int (n : Int), V.int (x : Int)]) = G3 at c1 c2 ⊢
        have tb4 := tb3.put keyI_inj (n, x)
        rw [show valI (leadT t n) (n, x) = V.int (x : Nat) from congrArg (fun k : Nat => V.int k) v2] at tb4
        refine ⟨q, _, rfl, DPut.t (k := keyI (n, x)) (c1 _ _ b1) c2 (tb3.few fun i hi => hi.elim (fun h => by omega) fun h => by rw [h]; exact ⟨by show x < 5; omega, by show n < 5; omega⟩), ?_⟩
        refine ⟨_, _, rfl, fun b o e => ?_, upd_same, tb4.congr fun i => ?_⟩
        · rw [upd_ne (ne_of_none e hq0)]
          exact c1 _ _ (b2 _ _ e)
        · obtain ⟨a, b⟩ := i
          simp only [Prod.mk.injEq]
          omega
    · rintro σ H2 ⟨x5, kvs2, rfl, s2, hq2, tb2⟩
      refine ⟨_, rfl, k q H2 s2 hq0 ⟨kvs2, hq2, tb2.congr fun i => ?_⟩⟩
      obtain ⟨a, b⟩ := i
      have : ((n : Int) + 1).toNat = n + 1 := by omega
      rw [this]
      show ((a < n ∧ b < n) ∨ (a < n + 1 ∧ b = n) ∨ (a = n ∧ b < n + 1)) ↔ (a < n + 1 ∧ b < n + 1)
      omega
end
end KT
set_option Elab.async false
set_option linter.all false
set_option maxRecDepth 100000
set_option maxHeartbeats 4000000
namespace KT
open PySem L2 PyProof.Rows DTp
section
variable {P : Program} {w : World} {K : PySem.W.Frag} {mg : Str → Option Value} {base : Heap}
def spCyc : Sp := fun vs H Q _ => ∃ n lead : Nat, vs = [.int n, .int lead] ∧ 0 < n ∧ n < 5 ∧ 0 < lead ∧ lead ≤ n ∧ ∀ (q : Addr) (H' : Hp), L2.Same H H' → H q = none → TabAt H' q n (cyclicT n lead) → Q (.ref q) H'
abbrev nCyc : List Str := ["_law_many", "_law_lead", "_law_told", "_law_x", "_law_y", "_law_raised"]
theorem scCyc : FnScope nCyc ["_law_many", "_law_lead"] (defScope sCyclic) := ⟨rfl, rfl, rfl, by decide +kernel, rfl, by decide +kernel, by decide +kernel⟩
theorem ok_cyc {f : Addr} {fd : FuncData} (F : Fun K "_law_cyclic_table" "_law_cyclic_table" sCyclic f fd) (T : Blt mg) : FnOk P w K mg base CX0 1 f fd ["_law_many", "_law_lead"] spCyc := by
  refine F.ok scCyc (fun vs H Q E h => ?_) (fun cdv A outer s H vs Q E hr h => ?_)
  · obtain ⟨n, lead, rfl, _⟩ := h
    rfl
  · obtain ⟨n, lead, rfl, n0, n5, l0, ln, k⟩ := h
    have nd := scCyc.nd
    refine ⟨_, pss_cons (ps_set (i := 2) nd rfl (Or.inl rfl) pe_dnewT)
      (pss_cons (ps_for PassesOwn.never rfl (pi_range1 rfl T.range (pa_cons (pv 0) pa_nil)) (pg_name (i := 3) nd rfl (Or.inl rfl))
        (pss_one (ps_for PassesOwn.never rfl (pi_range1 rfl T.range (pa_cons (pv 0) pa_nil)) (pg_name (i := 4) nd rfl (Or.inl rfl))
          (pss_cons (ps_set (i := 5) nd rfl (Or.inl rfl) (pe_op op_add (pe_op op_add (pv 3) (pv 4)) pe_int))
          (pss_one (ps_dput (hu_of hr) (pv 2) (pe_tup (pa_cons (pv 3) (pa_cons (pv 4) pa_nil)))
            (pe_op op_sub (pe_ifExp (pt_cmpR op_le (pv 5) (pv 0) (nomark _)) (pv 5) (pe_op op_add (pv 1) (pe_op op_modN (pe_callTy call_int1 (by rfl) T.int boot_int (pa_cons (pe_op op_sub (pv 5) (pv 1)) pa_nil)) (pe_op op_add (pe_op op_sub (pv 0) (pv 1)) pe_int)))) pe_int) rfl))))))
      (pss_one (ps_ret (pv 2)))), ?_⟩
    refine fun d hd => ?_
    refine ⟨_, rfl, _, rfl, by omega, by omega, ?_⟩
    refine for_range (lo := 0) (n := (n : Int).toNat) (fun x σ H' => ∃ (x3 x4 x5 : Option V) (kvs : List (List Key × V)), σ = [some (.int n), some (.int lead), some (.ref d), x3, x4, x5] ∧ L2.Same H H' ∧ H' d = some (.dT kvs) ∧ TbG (fun i : Ix => i.1 < x ∧ i.2 < n) keyI (valI (cyclicT n lead)) kvs) ?_ ?_ ?_
    · exact ⟨_, _, _, [], rfl, Same.new hd, upd_same, TbG.nil.congr fun i => by simp⟩
    · rintro x σ H1 hx ⟨x3, x4, x5, kvs, rfl, s1, hd1, tb⟩
      refine at_name (σ' := [some (.int n), some (.int lead), some (.ref d), some (.int (x : Int)), x4, x5]) (by rw [Int.zero_add]; rfl) ?_
      refine ⟨_, rfl, _, rfl, by omega, by omega, ?_⟩
      refine for_range (lo := 0) (n := (n : Int).toNat) (fun y σ H' => ∃ (x4 x5 : Option V) (kvs : List (List Key × V)), σ = [some (.int n), some (.int lead), some (.ref d), some (.int (x : Int)), x4, x5] ∧ L2.Same H H' ∧ H' d = some (.dT kvs) ∧ TbG (fun i : Ix => (i.1 < x ∧ i.2 < n) ∨ (i.1 = x ∧ i.2 < y)) keyI (valI (cyclicT n lead)) kvs) ?_ ?_ ?_
      · exact ⟨_, _, kvs, rfl, s1, hd1, tb.row0⟩
      · rintro y σ H2 hy ⟨x4, x5, kvs, rfl, s2, hd2, tb⟩
        have hxn : x < n := by omega
        have hyn : y < n := by omega
        refine at_name (σ' := [some (.int n), some (.int lead), some (.ref d), some (.int (x : Int)), some (.int (y : Int)), x5]) (by rw [Int.zero_add]; rfl) ?_
        refine ⟨_, rfl, _, rfl, _, _, rfl, rfl, _, _, rfl, rfl, ?_⟩
        refine at_name (σ' := [some (.int n), some (.int lead), some (.ref d), some (.int (x : Int)), some (.int (y : Int)), some (.int ((x : Int) + y + 2))]) rfl ?_
        have fin : ∀ z : Int, z = (cyclicT n lead x y : Nat) → ∀ t1, H2 t1 = none → ∃ a H4, (V.ref d) = V.ref a ∧ DPut (upd H2 t1 (.tup [V.int (x : Int), V.int (y : Int)])) a (.ref t1) (.int z) H4 ∧ ∃ (x4 x5 : Option V) (kvs : List (List Key × V)), [some (V.int n), some (.int lead), some (.ref d), some (.int (x : Int)), some (.int (y : Int)), some (.int ((x : Int) + y + 2))] = [some (.int n), some (.int lead), some (.ref d), some (.int (x : Int)), x4, x5] ∧ L2.Same H H4 ∧ H4 d = some (.dT kvs) ∧ TbG (fun i : Ix => (i.1 < x ∧ i.2 < n) ∨ (i.1 = x ∧ i.2 < y + 1)) keyI (valI (cyclicT n lead)) kvs := by
          rintro z rfl t1 ht1
          have h1 := Same.new (H := H2) (o := .tup [V.int (x : Int), V.int (y : Int)]) ht1
          refine ⟨d, _, rfl, DPut.t (k := keyI (x, y)) (h1 _ _ hd2) upd_same (tb.few fun i hi => by omega), _, _, _, rfl, fun b o e => ?_, upd_same, tb.next⟩
          rw [upd_ne (ne_of_none e hd)]
          exact h1 _ _ (s2 _ _ e)
        refine ⟨_, rfl, _, rfl, _, _, rfl, rfl, _, rfl, ?_⟩
        by_cases z : x + y + 2 ≤ n
        · rw [decide_eq_true (show (x : Int) + y + 2 ≤ n by omega)]
          refine iteT ⟨_, rfl, _, _, rfl, rfl, _, rfl, _, rfl, _, rfl, (by show 2 ≤ sizeLine; decide), fun t1 ht1 => fin _ ?_ t1 ht1⟩
          unfold cyclicT
          rw [if_pos z]
          omega
        · rw [decide_eq_false (show ¬ (x : Int) + y + 2 ≤ n by omega)]
          refine iteF ⟨_, rfl, _, rfl, _, rfl, _, _, rfl, rfl, .inl ⟨_, rfl, _, rfl, _, rfl, _, _, rfl, rfl, _, _, rfl, rfl, _, _, rfl, rfl, by omega, _, _, rfl, rfl, _, _, rfl, rfl, _, rfl, _, rfl, _, rfl, (by show 2 ≤ sizeLine; decide), fun t1 ht1 => fin _ ?_ t1 ht1⟩⟩
          unfold cyclicT
          rw [if_neg z]
          have e1 : ((x : Int) + y + 2 - lead).fmod ((n : Int) - lead + 1) = (((x + y + 2 - lead) % (n - lead + 1) : Nat) : Int) := by
            have a1 : ((x : Int) + y + 2 - lead) = ((x + y + 2 - lead : Nat) : Int) := by omega
            have a2 : ((n : Int) - lead + 1) = ((n - lead + 1 : Nat) : Int) := by omega
            rw [a1, a2, Int.fmod_eq_emod_of_nonneg _ (by omega)]
            exact (Int.natCast_emod _ _).symm
          rw [e1]
          omega
      · rintro σ H2 ⟨x4, x5, kvs, rfl, s2, hd2, tb⟩
        have hn : (n : Int).toNat = n := by omega
        rw [hn] at tb
        exact ⟨_, _, _, kvs, rfl, s2, hd2, tb.row⟩
    · rintro σ H1 ⟨x3, x4, x5, kvs, rfl, s1, hd1, tb⟩
      have hn : (n : Int).toNat = n := by omega
      rw [hn] at tb
      exact ⟨_, rfl, k d H1 s1 hd ⟨kvs, hd1, tb⟩⟩
end
end KT
set_option Elab.async false
set_option linter.all false
set_option maxRecDepth 100000
set_option maxHeartbeats 4000000
namespace KT
open PySem L2 PyProof.Rows DTp
section
variable {P : Program} {w : World} {K : PySem.W.Frag} {mg : Str → Option Value} {base : Heap}
def spTwo : Sp := fun vs H Q _ => ∃ (a b : Addr) (t u : Nat → Nat → Nat), vs = [.ref a, .ref b] ∧ TabAt H a 2 t ∧ TabAt H b 2 u ∧ ∀ (q : Addr) (H' : Hp), L2.Same H H' → H q = none → TabAt H' q 4 (twofoldT t u) → Q (.ref q) H'
abbrev nTwo : List Str := ["_law_one", "_law_other", "_law_found", "_law_x", "_law_y"]
theorem scTwo : FnScope nTwo ["_law_one", "_law_other"] (defScope sTwofold) := ⟨rfl, rfl, rfl, by decide +kernel, rfl, by decide +kernel, by decide +kernel⟩
theorem ok_two {f : Addr} {fd : FuncData} (F : Fun K "_law_twofold_table" "_law_twofold_table" sTwofold f fd) (T : Blt mg) : FnOk P w K mg base CX0 1 f fd ["_law_one", "_law_other"] spTwo := by
  refine F.ok scTwo (fun vs H Q E h => ?_) (fun cdv A outer s H vs Q E hr h => ?_)
  · obtain ⟨a, b, t, u, rfl, _⟩ := h
    rfl
  · obtain ⟨a, b, t, u, rfl, ha, hb, k⟩ := h
    have nd := scTwo.nd
    refine ⟨_, pss_cons (ps_set (i := 2) nd rfl (Or.inl rfl) pe_dnewT)
      (pss_cons (ps_for PassesOwn.never rfl (pi_range1 rfl T.range (pa_cons pe_int pa_nil)) (pg_name (i := 3) nd rfl (Or.inl rfl))
        (pss_one (ps_for PassesOwn.never rfl (pi_range1 rfl T.range (pa_cons pe_int pa_nil)) (pg_name (i := 4) nd rfl (Or.inl rfl))
          (pss_one (ps_dput (hu_of hr) (pv 2) (pe_tup (pa_cons (pv 3) (pa_cons (pv 4) pa_nil)))
            (pe_op op_add (pe_op op_mul pe_int (pe_dget (hu_of hr) (pv 0) (pe_tup (pa_cons (pe_op op_fdiv (pv 3) pe_int) (pa_cons (pe_op op_fdiv (pv 4) pe_int) pa_nil))) (fun _ _ => rfl)))
              (pe_dget (hu_of hr) (pv 1) (pe_tup (pa_cons (pe_op op_mod (pe_callTy call_int1 (by rfl) T.int boot_int (pa_cons (pv 3) pa_nil)) pe_int) (pa_cons (pe_op op_mod (pe_callTy call_int1 (by rfl) T.int boot_int (pa_cons (pv 4) pa_nil)) pe_int) pa_nil))) (fun _ _ => rfl))) rfl)))))
      (pss_one (ps_ret (pv 2)))), ?_⟩
    refine fun d hd => ?_
    refine ⟨_, rfl, by decide, by decide, ?_⟩
    refine for_range (lo := 0) (n := 4) (fun x σ H' => ∃ (x3 x4 : Option V) (kvs : List (List Key × V)), σ = [some (.ref a), some (.ref b), some (.ref d), x3, x4] ∧ L2.Same H H' ∧ H' d = some (.dT kvs) ∧ TbG (fun i : Ix => i.1 < x ∧ i.2 < 4) keyI (valI (twofoldT t u)) kvs) ?_ ?_ ?_
    · exact ⟨_, _, [], rfl, Same.new hd, upd_same, TbG.nil.congr fun i => by simp⟩
    · rintro x σ H1 hx ⟨x3, x4, kvs, rfl, s1, hd1, tb⟩
      refine at_name (σ' := [some (.ref a), some (.ref b), some (.ref d), some (.int (x : Int)), x4]) (by rw [Int.zero_add]; rfl) ?_
      refine ⟨_, rfl, by decide, by decide, ?_⟩
      refine for_range (lo := 0) (n := 4) (fun y σ H' => ∃ (x4 : Option V) (kvs : List (List Key × V)), σ = [some (.ref a), some (.ref b), some (.ref d), some (.int (x : Int)), x4] ∧ L2.Same H H' ∧ H' d = some (.dT kvs) ∧ TbG (fun i : Ix => (i.1 < x ∧ i.2 < 4) ∨ (i.1 = x ∧ i.2 < y)) keyI (valI (twofoldT t u)) kvs) ?_ ?_ ?_
      · exact ⟨_, kvs, rfl, s1, hd1, tb.row0⟩
      · rintro y σ H2 hy ⟨x4, kvs, rfl, s2, hd2, tb⟩
        refine at_name (σ' := [some (.ref a), some (.ref b), some (.ref d), some (.int (x : Int)), some (.int (y : Int))]) (by rw [Int.zero_add]; rfl) ?_
        have q1 : (x : Int) / 2 = ((x / 2 : Nat) : Int) := by omega
        have q2 : (y : Int) / 2 = ((y / 2 : Nat) : Int) := by omega
        have q3 : (x : Int) % 2 = ((x % 2 : Nat) : Int) := by omega
        have q4 : (y : Int) % 2 = ((y % 2 : Nat) : Int) := by omega
        refine ⟨_, rfl, _, rfl, _, _, rfl, rfl, (by show (0 : Int) < 2 ∧ (2 : Int) < 1073741824; decide), _, rfl, _, _, rfl, rfl, (by show (0 : Int) < 2 ∧ (2 : Int) < 1073741824; decide), (by show 2 ≤ sizeLine; decide), fun t1 ht1 => ?_⟩
        have a1 := Same.new (H := H2) (o := .tup [V.int ((x : Int) / 2), V.int ((y : Int) / 2)]) ht1
        have a2 : upd H2 t1 (.tup [V.int ((x : Int) / 2), V.int ((y : Int) / 2)]) t1 = some (.tup [V.int ((x / 2 : Nat) : Int), V.int ((y / 2 : Nat) : Int)]) := by rw [upd_same, q1, q2]
        generalize upd H2 t1 (.tup [V.int ((x : Int) / 2), V.int ((y : Int) / 2)]) = G1 at a1 a2 ⊢
        refine ⟨a, _, rfl, ((ha.mono s2).mono a1).get (by omega) (by omega) a2, _, _, rfl, rfl, .inl (by decide), ?_⟩
        refine ⟨_, rfl, _, rfl, .inl ⟨_, rfl, _, _, rfl, rfl, (by show (0 : Int) < 2; decide), _, rfl, .inl ⟨_, rfl, _, _, rfl, rfl, (by show (0 : Int) < 2; decide), (by show 2 ≤ sizeLine; decide), fun t2 ht2 => ?_⟩⟩⟩
        have b1 := Same.new (H := G1) (o := .tup [V.int ((x : Int) % 2), V.int ((y : Int) % 2)]) ht2
        have b2 : upd G1 t2 (.tup [V.int ((x : Int) % 2), V.int ((y : Int) % 2)]) t2 = some (.tup [V.int ((x % 2 : Nat) : Int), V.int ((y % 2 : Nat) : Int)]) := by rw [upd_same, q3, q4]
        generalize upd G1 t2 (.tup [V.int ((x : Int) % 2), V.int ((y : Int) % 2)]) = G2 at b1 b2 ⊢
        refine ⟨b, _, rfl, (((hb.mono s2).mono a1).mono b1).get (by omega) (by omega) b2, _, _, rfl, rfl, ?_⟩
        refine ⟨_, rfl, _, rfl, _, rfl, (by show 2 ≤ sizeLine; decide), fun t3 ht3 => ?_⟩
        have c1 := Same.new (H := G2) (o := .tup [V.int (x : Int), V.int (y : Int)]) ht3
        have ev : (2 * (t (x / 2) (y / 2) : Int) + (u (x % 2) (y % 2) : Int)) = ((twofoldT t u x y : Nat) : Int) := by
          unfold twofoldT
          omega
        refine ⟨d, _, rfl, DPut.t (k := keyI (x, y)) (c1 _ _ (b1 _ _ (a1 _ _ hd2))) upd_same (tb.few fun i hi => by omega), _, _, rfl, fun z o e => ?_, upd_same, ?_⟩
        · rw [upd_ne (ne_of_none e hd)]
          exact c1 _ _ (b1 _ _ (a1 _ _ (s2 _ _ e)))
        · have tn := tb.next
          rw [show valI (twofoldT t u) (x, y) = V.int (2 * (t (x / 2) (y / 2) : Int) + (u (x % 2) (y % 2) : Int)) from congrArg V.int ev.symm] at tn
          exact tn
      · rintro σ H2 ⟨x4, kvs, rfl, s2, hd2, tb⟩
        exact ⟨_, _, kvs, rfl, s2, hd2, tb.row⟩
    · rintro σ H1 ⟨x3, x4, kvs, rfl, s1, hd1, tb⟩
      exact ⟨_, rfl, k d H1 s1 hd ⟨kvs, hd1, tb⟩⟩
def spTwin : Sp := fun vs H Q _ => ∃ (a : Addr) (n v : Nat) (t : Nat → Nat → Nat), vs = [.ref a, .int n, .int v] ∧ 0 < n ∧ n < 4 ∧ v < n ∧ TabAt H a n t ∧ ∀ (q : Addr) (H' : Hp), L2.Same H H' → H q = none → TabAt H' q (n + 1) (twinT t n v) → Q (.ref q) H'
abbrev nTwin : List Str := ["_law_told", "_law_many", "_law_twin", "_law_head", "_law_found", "_law_x", "_law_y"]
theorem scTwin : FnScope nTwin ["_law_told", "_law_many", "_law_twin"] (defScope sTwin) := ⟨rfl, rfl, rfl, by decide +kernel, rfl, by decide +kernel, by decide +kernel⟩
theorem ok_twin {f : Addr} {fd : FuncData} (F : Fun K "_law_twin_table" "_law_twin_table" sTwin f fd) (T : Blt mg) (hl : mg "list" = none) : FnOk P w K mg base CX0 1 f fd ["_law_told", "_law_many", "_law_twin"] spTwin := by
  refine F.ok scTwin (fun vs H Q E h => ?_) (fun cdv A outer s H vs Q E hr h => ?_)
  · obtain ⟨a, n, v, t, rfl, _⟩ := h
    rfl
  · obtain ⟨a, n, v, t, rfl, n0, n4, hv, ha, k⟩ := h
    have nd := scTwin.nd
    refine ⟨_, pss_cons (ps_set (i := 3) nd rfl (Or.inl rfl) (pe_op op_cat (pe_listRg rfl (by rfl) hl (prg_1 (by rfl) T.range (pv 1))) (pe_lst (pa_cons (pv 2) pa_nil))))
      (pss_cons (ps_set (i := 4) nd rfl (Or.inl rfl) pe_dnewT)
      (pss_cons (ps_for PassesOwn.never rfl (pi_range1 rfl T.range (pa_cons (pe_op op_add (pv 1) pe_int) pa_nil)) (pg_name (i := 5) nd rfl (Or.inl rfl))
        (pss_one (ps_for PassesOwn.never rfl (pi_range1 rfl T.range (pa_cons (pe_op op_add (pv 1) pe_int) pa_nil)) (pg_name (i := 6) nd rfl (Or.inl rfl))
          (pss_one (ps_dput (hu_of hr) (pv 4) (pe_tup (pa_cons (pv 5) (pa_cons (pv 6) pa_nil)))
            (pe_dget (hu_of hr) (pv 0) (pe_tup (pa_cons (pe_ix ix_list (pv 3) (pv 5) (fun _ _ => rfl)) (pa_cons (pe_ix ix_list (pv 3) (pv 6) (fun _ _ => rfl)) pa_nil))) (fun _ _ => rfl)) rfl)))))
      (pss_one (ps_ret (pv 4))))), ?_⟩
    refine ⟨_, rfl, _, rfl, ⟨by decide, by decide, by omega, by omega, by omega⟩, fun q1 hq1 => ?_⟩
    have a1 := Same.new (H := H) (o := .lst (rgV 0 n)) hq1
    have a2 : upd H q1 (.lst (rgV 0 n)) q1 = _ := upd_same
    generalize upd H q1 (.lst (rgV 0 n)) = G1 at a1 a2 ⊢
    refine ⟨_, rfl, (by show 1 ≤ sizeLine; decide), fun q2 hq2 => ?_⟩
    have b1 := Same.new (H := G1) (o := .lst [V.int (v : Int)]) hq2
    have b2 : upd G1 q2 (.lst [V.int (v : Int)]) q2 = _ := upd_same
    generalize upd G1 q2 (.lst [V.int (v : Int)]) = G2 at b1 b2 ⊢
    have hlen : (rgV 0 n).length = n := by
      unfold rgV
      rw [List.length_map, List.length_range]
      omega
    refine ⟨q1, q2, _, _, rfl, rfl, b1 _ _ a2, b2, (by rw [hlen]; show n + 1 ≤ sizeLine; rw [sizeLine_eq]; omega), fun q3 hq3 => ?_⟩
    have c1 := Same.new (H := G2) (o := .lst (rgV 0 n ++ [V.int (v : Int)])) hq3
    have c2 : upd G2 q3 (.lst (rgV 0 n ++ [V.int (v : Int)])) q3 = _ := upd_same
    generalize upd G2 q3 (.lst (rgV 0 n ++ [V.int (v : Int)])) = G3 at c1 c2 ⊢
    have hh : ∀ x : Nat, x < n + 1 → (rgV 0 (n : Int) ++ [V.int (v : Int)])[x]? = some (.int ((if x < n then x else v : Nat) : Int)) := by
      intro x hx
      by_cases z : x < n
      · rw [List.getElem?_append_left (by rw [hlen]; exact z), if_pos z]
        unfold rgV
        have e0 : ((n : Int) - 0).toNat = n := by omega
        rw [e0, List.getElem?_map, List.getElem?_range z]
        show some (V.int (0 + (x : Int))) = _
        rw [Int.zero_add]
      · have e1 : x = n := by omega
        subst e1
        rw [List.getElem?_append_right (by rw [hlen]; omega), hlen, if_neg z, Nat.sub_self]
        rfl
    have hs : L2.Same H G3 := fun z o e => c1 _ _ (b1 _ _ (a1 _ _ e))
    refine at_name (σ' := [some (.ref a), some (.int n), some (.int v), some (.ref q3), none, none, none]) rfl ?_
    refine fun d hd => ?_
    have d1 := Same.new (H := G3) (o := .dT []) hd
    have hd0 : H d = none := by
      cases e : H d with
      | none => rfl
      | some o => rw [hs _ _ e] at hd; cases hd
    refine at_name (σ' := [some (.ref a), some (.int n), some (.int v), some (.ref q3), some (.ref d), none, none]) rfl ?_
    have hq3d : upd G3 d (.dT []) q3 = some (.lst (rgV 0 n ++ [V.int (v : Int)])) := d1 _ _ c2
    have d2 : upd G3 d (.dT []) d = some (.dT []) := upd_same
    have hs0 : L2.Same H (upd G3 d (.dT [])) := fun z o e => d1 _ _ (hs _ _ e)
    generalize upd G3 d (.dT []) = G4 at d2 hq3d hs0 ⊢
    refine ⟨_, rfl, _, _, rfl, rfl, _, rfl, by omega, by omega, ?_⟩
    refine for_range (lo := 0) (n := ((n : Int) + 1).toNat) (fun x σ H' => ∃ (x5 x6 : Option V) (kvs : List (List Key × V)), σ = [some (.ref a), some (.int n), some (.int v), some (.ref q3), some (.ref d), x5, x6] ∧ L2.Same H H' ∧ H' q3 = some (.lst (rgV 0 n ++ [V.int (v : Int)])) ∧ H' d = some (.dT kvs) ∧ TbG (fun i : Ix => i.1 < x ∧ i.2 < n + 1) keyI (valI (twinT t n v)) kvs) ?_ ?_ ?_
    · exact ⟨_, _, [], rfl, hs0, hq3d, d2, TbG.nil.congr fun i => by simp⟩
    · rintro x σ H1 hx ⟨x5, x6, kvs, rfl, s1, hq1, hd1, tb⟩
      refine at_name (σ' := [some (.ref a), some (.int n), some (.int v), some (.ref q3), some (.ref d), some (.int (x : Int)), x6]) (by rw [Int.zero_add]; rfl) ?_
      refine ⟨_, rfl, _, _, rfl, rfl, _, rfl, by omega, by omega, ?_⟩
      refine for_range (lo := 0) (n := ((n : Int) + 1).toNat) (fun y σ H' => ∃ (x6 : Option V) (kvs : List (List Key × V)), σ = [some (.ref a), some (.int n), some (.int v), some (.ref q3), some (.ref d), some (.int (x : Int)), x6] ∧ L2.Same H H' ∧ H' q3 = some (.lst (rgV 0 n ++ [V.int (v : Int)])) ∧ H' d = some (.dT kvs) ∧ TbG (fun i : Ix => (i.1 < x ∧ i.2 < n + 1) ∨ (i.1 = x ∧ i.2 < y)) keyI (valI (twinT t n v)) kvs) ?_ ?_ ?_
      · exact ⟨_, kvs, rfl, s1, hq1, hd1, tb.row0⟩
      · rintro y σ H2 hy ⟨x6, kvs, rfl, s2, hq2, hd2, tb⟩
        refine at_name (σ' := [some (.ref a), some (.int n), some (.int v), some (.ref q3), some (.ref d), some (.int (x : Int)), some (.int (y : Int))]) (by rw [Int.zero_add]; rfl) ?_
        have hx' : x < n + 1 := by omega
        have hy' : y < n + 1 := by omega
        refine ⟨_, rfl, _, rfl, _, rfl, q3, _, (x : Int), _, rfl, rfl, SqL.of hq2, atI_nat (hh x hx'), _, rfl, _, rfl, q3, _, (y : Int), _, rfl, rfl, SqL.of hq2, atI_nat (hh y hy'), (by show 2 ≤ sizeLine; decide), fun t1 ht1 => ?_⟩
        have e1 := Same.new (H := H2) (o := .tup [V.int ((if x < n then x else v : Nat) : Int), V.int ((if y < n then y else v : Nat) : Int)]) ht1
        have e2 : upd H2 t1 (.tup [V.int ((if x < n then x else v : Nat) : Int), V.int ((if y < n then y else v : Nat) : Int)]) t1 = _ := upd_same
        generalize upd H2 t1 (.tup [V.int ((if x < n then x else v : Nat) : Int), V.int ((if y < n then y else v : Nat) : Int)]) = G5 at e1 e2 ⊢
        refine ⟨a, _, rfl, ((ha.mono s2).mono e1).get (by split <;> omega) (by split <;> omega) e2, _, rfl, _, rfl, _, rfl, (by show 2 ≤ sizeLine; decide), fun t3 ht3 => ?_⟩
        have f1 := Same.new (H := G5) (o := .tup [V.int (x : Int), V.int (y : Int)]) ht3
        refine ⟨d, _, rfl, DPut.t (k := keyI (x, y)) (f1 _ _ (e1 _ _ hd2)) upd_same (tb.few fun i hi => by omega), _, _, rfl, fun z o e => ?_, ?_, upd_same, tb.next⟩
        · rw [upd_ne (ne_of_none e hd0)]
          exact f1 _ _ (e1 _ _ (s2 _ _ e))
        · rw [upd_ne (ne_of_none c2 hd)]
          exact f1 _ _ (e1 _ _ hq2)
      · rintro σ H2 ⟨x6, kvs, rfl, s2, hq2, hd2, tb⟩
        have hn : ((n : Int) + 1).toNat = n + 1 := by omega
        rw [hn] at tb
        exact ⟨_, _, kvs, rfl, s2, hq2, hd2, tb.row⟩
    · rintro σ H1 ⟨x5, x6, kvs, rfl, s1, hq1, hd1, tb⟩
      have hn : ((n : Int) + 1).toNat = n + 1 := by omega
      rw [hn] at tb
      exact ⟨_, rfl, k d H1 s1 hd0 ⟨kvs, hd1, tb⟩⟩
end
end KT
set_option Elab.async false
set_option linter.all false
set_option maxRecDepth 100000
set_option maxHeartbeats 4000000
namespace KT
open PySem L2 PyProof.Rows DTp
section
variable {P : Program} {w : World} {K : PySem.W.Frag} {mg : Str → Option Value} {base : Heap}
/-- a table that may be read, locked or not -/
def TabRd (H : Hp) (a : Addr) (n : Nat) (t : Nat → Nat → Nat) : Prop := ∃ kvs, Rd H a (.dT kvs) ∧ TbG (Sq n) keyI (valI t) kvs
theorem TabRd.mono {H H' : Hp} {a : Addr} {n : Nat} {t : Nat → Nat → Nat} (s : L2.Same H H') (h : TabRd H a n t) : TabRd H' a n t := by
  obtain ⟨kvs, h1, h2⟩ := h
  rcases h1 with e | ⟨od, e⟩
  · exact ⟨kvs, .inl (s _ _ e), h2⟩
  · exact ⟨kvs, .inr ⟨od, s _ _ e⟩, h2⟩
theorem TabRd.get {H : Hp} {a b : Addr} {n x y : Nat} {t : Nat → Nat → Nat} (h : TabRd H a n t) (hx : x < n) (hy : y < n) (hb : H b = some (.tup [V.int (x : Int), V.int (y : Int)])) : DGet H a (.ref b) (some (.int (t x y))) := by
  obtain ⟨kvs, h1, h2⟩ := h
  have e : DGet H a (.ref b) (valV kvs (keyI (x, y))) := .inr ⟨kvs, keyI (x, y), b, h1, rfl, hb, rfl⟩
  rw [h2.get (i := (x, y)) ⟨hx, hy⟩] at e
  exact e
def spAnyT : Sp := fun vs H Q _ => ∃ (p : Addr) (n : Nat) (B : Int), vs = [.ref p, .int n] ∧ PurseAt H p B ∧ 0 ≤ B ∧ B ≤ 990000 ∧ 0 < n ∧ n < 5 ∧ ∀ (q : Addr) (t : Nat → Nat → Nat) (H' : Hp), H q = none → But p H H' → PurseAt H' p (B + 100) → TabAt H' q n t → Free n t → Q (.ref q) H'
abbrev nAnyT : List Str := ["_law_purse_here", "_law_many", "_law_told", "_law_x", "_law_y", "_law_z"]
theorem scAnyT : FnScope nAnyT ["_law_purse_here", "_law_many"] (defScope sAny) := ⟨rfl, rfl, rfl, by decide +kernel, rfl, by decide +kernel, by decide +kernel⟩
theorem ok_anyT {f : Addr} {fd : FuncData} (F : Fun K "_law_any_table" "_law_any_table" sAny f fd) (T : Blt mg) (ha : mg "any" = none) (D : DrawC P w K mg base) (Cy : Cee P w K mg base 1 "_law_cyclic_table" ["_law_many", "_law_lead"] spCyc) : FnOk P w K mg base CX0 3 f fd ["_law_purse_here", "_law_many"] spAnyT := by
  refine F.ok scAnyT (fun vs H Q E h => ?_) (fun cdv A outer s H vs Q E hr h => ?_)
  · obtain ⟨p, n, B, rfl, _⟩ := h
    rfl
  · obtain ⟨p, n, B, rfl, hP, B0, B1, n0, n5, k⟩ := h
    have nd := scAnyT.nd
    refine ⟨_, pss_cons (ps_set (i := 2) nd rfl (Or.inr rfl) pe_dnewT)
      (pss_cons (ps_for PassesOwn.never rfl (pi_range1 rfl T.range (pa_cons (pv 1) pa_nil)) (pg_name (i := 3) nd rfl (Or.inr rfl))
        (pss_one (ps_for PassesOwn.never rfl (pi_range1 rfl T.range (pa_cons (pv 1) pa_nil)) (pg_name (i := 4) nd rfl (Or.inr rfl))
          (pss_one (ps_dput (hu_of hr) (pv 2) (pe_tup (pa_cons (pv 3) (pa_cons (pv 4) pa_nil))) (pe_c D hr rfl (pa_cons (pv 0) (pa_cons (pv 1) pa_nil))) rfl)))))
      (pss_cons (ps_lock (ps_for PassesOwn.never rfl (pi_keys (pv 2)) (pg_tup rfl (pgs_cons (pg_name (i := 3) nd rfl (Or.inr rfl)) (pgs_cons (pg_name (i := 4) nd rfl (Or.inr rfl)) pgs_nil)))
        (pss_one (ps_if (pt_val (pe_callB (cr_any rfl) (by rfl) ha (by decide +kernel) (pa_cons
            (pe_lc (own := [("_law_z", 5)]) (g := gName 5) (tt := tYes)
              (te := tOp rNe (tDGet (tVar 2) (tTup (tCons (tDGet (tVar 2) (tTup (tCons (tVar 3) (tCons (tVar 4) tNil)))) (tCons (tVar 5) tNil)))) (tDGet (tVar 2) (tTup (tCons (tVar 3) (tCons (tDGet (tVar 2) (tTup (tCons (tVar 4) (tCons (tVar 5) tNil)))) tNil)))))
              rfl nd (pi_range1 rfl T.range (pa_cons (pv 1) pa_nil)) (blkOk_by (own := [("_law_z", 5)]) (N := nAnyT) (sc := defScope sAny) (by decide +kernel))
              (fun _ _ _ _ _ => pg_name (i := 5) nd rfl (Or.inl rfl)) (fun _ _ _ _ _ => pts_nil)
              (fun _ _ _ _ _ => pe_cmpR op_ne (pe_dget (hu_of hr) (pv 2) (pe_tup (pa_cons (pe_dget (hu_of hr) (pv 2) (pe_tup (pa_cons (pv 3) (pa_cons (pv 4) pa_nil))) (fun _ _ => rfl)) (pa_cons (pv 5) pa_nil))) (fun _ _ => rfl))
                (pe_dget (hu_of hr) (pv 2) (pe_tup (pa_cons (pv 3) (pa_cons (pe_dget (hu_of hr) (pv 2) (pe_tup (pa_cons (pv 4) (pa_cons (pv 5) pa_nil))) (fun _ _ => rfl)) pa_nil))) (fun _ _ => rfl)) (nomark _))) pa_nil)))
          (pss_one (ps_ret (pe_c Cy hr rfl (pa_cons (pv 1) (pa_cons (pe_op op_add pe_int (pe_c D hr rfl (pa_cons (pv 0) (pa_cons (pv 1) pa_nil)))) pa_nil))))) pss_nil))))
      (pss_one (ps_ret (pv 2))))), ?_⟩
    refine fun d hd => ?_
    have npd : p ≠ d := hP.ne hd
    refine ⟨_, rfl, _, rfl, by omega, by omega, ?_⟩
    refine for_range (lo := 0) (n := (n : Int).toNat) (fun x σ H' => ∃ (x3 x4 : Option V) (kvs : List (List Key × V)) (t : Nat → Nat → Nat), σ = [some (.ref p), some (.int n), some (.ref d), x3, x4, none] ∧ But p H H' ∧ PurseAt H' p (B + 20 * x) ∧ H' d = some (.dT kvs) ∧ TbG (fun i : Ix => i.1 < x ∧ i.2 < n) keyI (valI t) kvs ∧ ∀ i j, t i j < n) ?_ ?_ ?_
    · exact ⟨_, _, [], fun _ _ => 0, rfl, (But.refl p H).new hd, (hP.upd npd).le (by omega), upd_same, TbG.nil.congr fun i => by simp, fun _ _ => n0⟩
    · rintro x σ H1 hx ⟨x3, x4, kvs, t, rfl, bt1, hP1, hd1, tb, tn⟩
      refine at_name (σ' := [some (.ref p), some (.int n), some (.ref d), some (.int (x : Int)), x4, none]) (by rw [Int.zero_add]; rfl) ?_
      refine ⟨_, rfl, _, rfl, by omega, by omega, ?_⟩
      refine for_range (lo := 0) (n := (n : Int).toNat) (fun y σ H' => ∃ (x4 : Option V) (kvs : List (List Key × V)) (t : Nat → Nat → Nat), σ = [some (.ref p), some (.int n), some (.ref d), some (.int (x : Int)), x4, none] ∧ But p H H' ∧ PurseAt H' p (B + 20 * x + 4 * y) ∧ H' d = some (.dT kvs) ∧ TbG (fun i : Ix => (i.1 < x ∧ i.2 < n) ∨ (i.1 = x ∧ i.2 < y)) keyI (valI t) kvs ∧ ∀ i j, t i j < n) ?_ ?_ ?_
      · exact ⟨_, kvs, t, rfl, bt1, hP1.le (by omega), hd1, tb.row0, tn⟩
      · rintro y σ H2 hy ⟨x4, kvs, t, rfl, bt2, hP2, hd2, tb, tn⟩
        refine at_name (σ' := [some (.ref p), some (.int n), some (.ref d), some (.int (x : Int)), some (.int (y : Int)), none]) (by rw [Int.zero_add]; rfl) ?_
        refine ⟨_, rfl, _, rfl, p, n, _, rfl, hP2, by omega, by omega, by omega, by omega, fun r H3 bt3 hP3 r0 r1 => ?_⟩
        obtain ⟨j, rfl⟩ := nat_of (m := 0) r0
        have hd3 : H3 d = some (.dT kvs) := bt3 d _ npd.symm hd2
        refine ⟨_, rfl, _, rfl, _, rfl, (by show 2 ≤ sizeLine; decide), fun t1 ht1 => ?_⟩
        have e1 := Same.new (H := H3) (o := .tup [V.int (x : Int), V.int (y : Int)]) ht1
        have tb2 : TbG (fun i : Ix => (i.1 < x ∧ i.2 < n) ∨ (i.1 = x ∧ i.2 < y)) keyI (valI fun a b => if a = x ∧ b = y then j else t a b) kvs := tb.congrV fun i hi => by
          obtain ⟨a, b⟩ := i
          show V.int ((t a b : Nat) : Int) = V.int ((if a = x ∧ b = y then j else t a b : Nat) : Int)
          rw [if_neg]
          rintro ⟨rfl, rfl⟩
          simp at hi
        have tb3 := tb2.next
        rw [show valI (fun a b => if a = x ∧ b = y then j else t a b) (x, y) = V.int (j : Int) from congrArg (fun z : Nat => V.int (z : Int)) (if_pos ⟨rfl, rfl⟩)] at tb3
        refine ⟨d, _, rfl, DPut.t (k := keyI (x, y)) (e1 _ _ hd3) upd_same (tb.few fun i hi => by omega), _, _, _, rfl, ?_, ?_, upd_same, tb3, fun a b => ?_⟩
        · exact (((bt2.trans bt3).new ht1)).fresh hd
        · exact ((hP3.upd (hP3.ne ht1)).upd npd).le (by omega)
        · split
          · omega
          · exact tn a b
      · rintro σ H2 ⟨x4, kvs, t, rfl, bt2, hP2, hd2, tb, tn⟩
        have hn : (n : Int).toNat = n := by omega
        rw [hn] at tb
        exact ⟨_, _, kvs, t, rfl, bt2, hP2.le (by omega), hd2, tb.row, tn⟩
    · rintro σ H1 ⟨x3, x4, kvs, t, rfl, bt1, hP1, hd1, tb, tn⟩
      have hn : (n : Int).toNat = n := by omega
      rw [hn] at tb
      have tbS : TbG (Sq n) keyI (valI t) kvs := tb
      obtain ⟨is, e1, ndi, e2⟩ := tbS.idxs keyI_inj
      have li : is.length = kvs.length := by rw [e1, List.length_map]
      refine ⟨d, .dT kvs, hd1, trivial, fun od => ?_⟩
      have G0 : ∃ G, G = upd H1 d (.frz od (.dT kvs)) := ⟨_, rfl⟩
      obtain ⟨G, eG⟩ := G0
      have hG : G d = some (.frz od (.dT kvs)) := by rw [eG, upd_same]
      have btG : But p H G := by rw [eG]; exact bt1.fresh hd
      have hPG : PurseAt G p (B + 80) := by rw [eG]; exact (hP1.upd npd).le (by omega)
      have tG : TabRd G d n t := ⟨kvs, .inr ⟨od, hG⟩, tbS⟩
      rw [← eG]
      clear eG
      refine ⟨_, rfl, d, od, rfl, .inr ⟨kvs, hG, ?_⟩⟩
      refine for_it walk_keysT (fun i σ H' => ∃ x3 x4 : Option V, σ = [some (.ref p), some (.int n), some (.ref d), x3, x4, none] ∧ L2.Same G H' ∧ ∀ a ∈ is.take i, ∀ z, z < n → t (t a.1 a.2) z = t a.1 (t a.2 z)) ?_ ?_ ?_ ?_
      · exact ⟨_, _, rfl, fun _ _ e => e, fun a ha => by rw [List.take_zero] at ha; cases ha⟩
      · rintro i σ H2 hi ⟨x3, x4, rfl, s2, _⟩
        exact s2 _ _ hG
      · rintro i v σ H0 H2 hi ⟨x3, x4, rfl, s2, hall⟩ ⟨rfl, kk, vv, q, hk, rfl, hq⟩
        have hi' : i < is.length := by omega
        have ej : is[i]? = some is[i] := List.getElem?_eq_getElem hi'
        have ek : kvs[i]? = some (keyI is[i], valI t is[i]) := by
          have e3 := congrArg (fun l : List (List Key × V) => l[i]?) e1
          simp only [List.getElem?_map, ej] at e3
          exact e3
        rw [hk] at ek
        have ek := Option.some.inj ek
        have hxy : Sq n is[i] := (e2 _).mpr (List.getElem_mem hi')
        obtain ⟨⟨x, y⟩, exy⟩ : ∃ a, a = is[i] := ⟨_, rfl⟩
        rw [← exy] at ek hxy ej
        obtain ⟨rfl, rfl⟩ : kk = keyI (x, y) ∧ vv = valI t (x, y) := ⟨congrArg Prod.fst ek, congrArg Prod.snd ek⟩
        obtain ⟨hx, hy⟩ : x < n ∧ y < n := hxy
        have hq' : H2 q = some (.tup [V.int (x : Int), V.int (y : Int)]) := hq
        refine ⟨q, _, rfl, SqT.of hq', rfl, _, _, rfl, ?_⟩
        refine at_name (σ' := [some (.ref p), some (.int n), some (.ref d), some (.int (x : Int)), x4, none]) rfl ?_
        refine ⟨_, _, rfl, ?_⟩
        refine at_name (σ' := [some (.ref p), some (.int n), some (.ref d), some (.int (x : Int)), some (.int (y : Int)), none]) rfl ?_
        refine ⟨rfl, ?_⟩
        refine ⟨_, rfl, _, rfl, by omega, by omega, fun L hL => ?_⟩
        refine lc_range (lo := 0) (n := (n : Int).toNat) (fun z H' => L2.Same G H' ∧ H' L = some (.lst ((List.map (fun z : Nat => !decide (V.int (t (t x y) z : Nat) = V.int (t x (t y z) : Nat))) (List.range z)).map V.bl))) ?_ ?_ ?_
        · exact ⟨fun b o e => by rw [upd_ne (ne_of_none (s2 _ _ e) hL)]; exact s2 _ _ e, upd_same⟩
        · rintro z H3 hz ⟨s3, hL3⟩
          have hxn : t x y < n := tn _ _
          have hzn : z < n := by omega
          refine ⟨rfl, yes_if ?_⟩
          refine ⟨_, rfl, _, rfl, _, rfl, _, rfl, (by show 2 ≤ sizeLine; decide), fun t1 ht1 => ?_⟩
          have a1 := Same.new (H := H3) (o := .tup [V.int (x : Int), V.int (y : Int)]) ht1
          have a2 : upd H3 t1 (.tup [V.int (x : Int), V.int (y : Int)]) t1 = _ := upd_same
          generalize upd H3 t1 (.tup [V.int (x : Int), V.int (y : Int)]) = G1 at a1 a2 ⊢
          refine ⟨d, _, rfl, ((tG.mono s3).mono a1).get hx hy a2, _, rfl, (by show 2 ≤ sizeLine; decide), fun t2 ht2 => ?_⟩
          rw [Int.zero_add]
          have b1 := Same.new (H := G1) (o := .tup [V.int (t x y : Nat), V.int (z : Int)]) ht2
          have b2 : upd G1 t2 (.tup [V.int (t x y : Nat), V.int (z : Int)]) t2 = _ := upd_same
          generalize upd G1 t2 (.tup [V.int (t x y : Nat), V.int (z : Int)]) = G2 at b1 b2 ⊢
          refine ⟨d, _, rfl, (((tG.mono s3).mono a1).mono b1).get hxn hzn b2, ?_⟩
          refine ⟨_, rfl, _, rfl, _, rfl, _, rfl, _, rfl, (by show 2 ≤ sizeLine; decide), fun t3 ht3 => ?_⟩
          have c1 := Same.new (H := G2) (o := .tup [V.int (y : Int), V.int (z : Int)]) ht3
          have c2 : upd G2 t3 (.tup [V.int (y : Int), V.int (z : Int)]) t3 = _ := upd_same
          generalize upd G2 t3 (.tup [V.int (y : Int), V.int (z : Int)]) = G3 at c1 c2 ⊢
          refine ⟨d, _, rfl, ((((tG.mono s3).mono a1).mono b1).mono c1).get hy hzn c2, (by show 2 ≤ sizeLine; decide), fun t4 ht4 => ?_⟩
          have d1 := Same.new (H := G3) (o := .tup [V.int (x : Int), V.int (t y z : Nat)]) ht4
          have d2 : upd G3 t4 (.tup [V.int (x : Int), V.int (t y z : Nat)]) t4 = _ := upd_same
          generalize upd G3 t4 (.tup [V.int (x : Int), V.int (t y z : Nat)]) = G4 at d1 d2 ⊢
          have al : ∀ b o, H3 b = some o → G4 b = some o := fun b o e => d1 _ _ (c1 _ _ (b1 _ _ (a1 _ _ e)))
          refine ⟨d, _, rfl, (((((tG.mono s3).mono a1).mono b1).mono c1).mono d1).get hx (tn _ _) d2, rfl, ?_⟩
          refine ⟨_, al _ _ hL3, ?_, ?_, ?_⟩
          · rw [List.length_map, List.length_map, List.length_range]
            exact small1000 (by omega)
          · intro b o e
            rw [upd_ne (ne_of_none (s2 _ _ e) hL)]
            exact al _ _ (s3 _ _ e)
          · rw [upd_same, List.range_succ, List.map_append, List.map_append]
            rfl
        · rintro H3 ⟨s3, hL3⟩
          have hn : (n : Int).toNat = n := by omega
          rw [hn] at hL3
          refine ⟨L, _, rfl, SqL.of hL3, _, rfl, ?_⟩
          refine ite2 (fun hany => ?_) (fun hany => ?_)
          · refine ⟨_, rfl, _, rfl, _, rfl, p, n, B + 80, rfl, hPG.mono s3, by omega, by omega, by omega, by omega, fun r H4 bt4 hP4 r0 r1 => ?_⟩
            obtain ⟨j, rfl⟩ := nat_of (m := 0) r0
            refine ⟨_, _, rfl, rfl, ?_⟩
            refine ⟨n, 1 + j, rfl, n0, n5, by omega, by omega, fun q H5 s5 hq5 tq => ?_⟩
            have hd5 : H5 d = some (.frz od (.dT kvs)) := s5 _ _ (bt4 d _ npd.symm (s3 _ _ hG))
            have hd4 : H4 d = some (.frz od (.dT kvs)) := bt4 d _ npd.symm (s3 _ _ hG)
            have nqd : q ≠ d := fun e => by rw [e, hd4] at hq5; cases hq5
            refine ⟨hd5, ?_⟩
            have bt5 : But p H H5 := ((btG.same s3).trans bt4).same s5
            have hq0 : H q = none := ((btG.same s3).trans bt4).free hP4 hq5
            refine k q _ _ hq0 (bt5.fresh hd) (((hP4.mono s5).upd npd).le (by omega)) ?_ (free_of (cyclic_free n n5 n0 (1 + j) (by omega) (by omega)))
            obtain ⟨kv2, f1, f2⟩ := tq
            exact ⟨kv2, by rw [upd_ne nqd]; exact f1, f2⟩
          · refine ⟨_, _, rfl, fun b o e => s3 _ _ e, fun a ha z hz => ?_⟩
            rw [take_next' ej] at ha
            rcases List.mem_append.mp ha with ha | ha
            · exact hall a ha z hz
            · rw [List.mem_singleton.mp ha]
              refine Classical.byContradiction fun ne => hany ?_
              refine List.any_eq_true.mpr ⟨true, List.mem_map.mpr ⟨z, List.mem_range.mpr hz, ?_⟩, rfl⟩
              show (!decide (V.int (t (t x y) z : Nat) = V.int (t x (t y z) : Nat))) = true
              rw [decide_eq_false]
              · rfl
              · intro e
                have e5 : ((t (t x y) z : Nat) : Int) = ((t x (t y z) : Nat) : Int) := by injection e
                exact ne (by show t (t x y) z = t x (t y z); omega)
      · rintro σ H2 ⟨x3, x4, rfl, s2, hall⟩
        refine ⟨s2 _ _ hG, ?_⟩
        rw [← li, List.take_length] at hall
        refine ⟨_, rfl, k d t _ hd ((btG.same s2).fresh hd) (((hPG.mono s2).upd npd).le (by omega)) ⟨kvs, upd_same, tbS⟩ ⟨fun x y hx hy => tn x y, fun x y z hx hy hz => hall (x, y) ((e2 (x, y)).mp ⟨hx, hy⟩) z hz⟩⟩
end
end KT
set_option Elab.async false
set_option linter.all false
set_option maxRecDepth 100000
set_option maxHeartbeats 4000000
namespace KT
open PySem L2 PyProof.Rows DTp
abbrev Asc (ws : List Str) : Prop := ws.Pairwise ltT
theorem ltT_asym {x y : Str} (a : ltT x y) : ¬ ltT y x := fun b => ltT_irr x (ltT_trans a b)
theorem Asc.nodup {ws : List Str} (h : Asc ws) : ws.Nodup := List.Pairwise.imp (S := fun a b => a ≠ b) (fun {a b} (q : ltT a b) (e : a = b) => ltT_irr a (by subst e; exact q)) h
theorem Asc.eq {xs ys : List Str} (h : Asc xs) (k : Asc ys) (p : xs.Perm ys) : xs = ys := List.Perm.eq_of_pairwise (le := ltT) (fun a b _ _ q r => absurd r (ltT_asym q)) h k p
theorem risingS_asc : ∀ (ws : List Str) (x : Str), risingS x ws = true → (x :: ws).Nodup → Asc (x :: ws)
  | [], x, _, _ => List.pairwise_singleton _ _
  | y :: ws, x, h, nd => by
    have h' : (!PySem.Spec.ltCps y.cps.toList x.cps.toList && risingS y ws) = true := h
    rw [Bool.and_eq_true, Bool.not_eq_true'] at h'
    obtain ⟨h1, h2⟩ := h'
    have nd' := List.nodup_cons.mp nd
    have ih := risingS_asc ws y h2 nd'.2
    have xy : ltT x y := by
      rcases ltT_tri x y with z | z | z
      · exact z
      · subst z; exact absurd List.mem_cons_self nd'.1
      · rw [ltCps_eq, decide_eq_true z] at h1; cases h1
    refine List.pairwise_cons.mpr ⟨fun z hz => ?_, ih⟩
    rcases List.mem_cons.mp hz with rfl | hz
    · exact xy
    · exact ltT_trans xy ((List.pairwise_cons.mp ih).1 z hz)
theorem sortedS_asc {ws : List Str} (h : sortedS ws = true) (nd : ws.Nodup) : Asc ws := by
  cases ws with
  | nil => exact .nil
  | cons x ws => exact risingS_asc ws x h nd
/-- the words of a list, ascending -/
def ascOf (W : List Str) : List Str := W.mergeSort fun x y => decide (¬ ltT y x)
theorem ascOf_perm (W : List Str) : (ascOf W).Perm W := List.mergeSort_perm _ _
theorem ascOf_asc {W : List Str} (nd : W.Nodup) : Asc (ascOf W) := by
  have h := List.pairwise_mergeSort (le := fun x y : Str => decide (¬ ltT y x)) (fun a b c h1 h2 => ?_) (fun a b => ?_) W
  · have n : (ascOf W).Nodup := (ascOf_perm W).symm.nodup_iff.mp nd |> fun z => by exact z
    refine List.Pairwise.imp ?_ (List.Pairwise.and h n)
    rintro a b ⟨q, ne⟩
    have q' := of_decide_eq_true q
    rcases ltT_tri a b with z | z | z
    · exact z
    · exact absurd z ne
    · exact absurd z q'
  · have h1 := of_decide_eq_true h1
    have h2 := of_decide_eq_true h2
    refine decide_eq_true fun h => ?_
    rcases ltT_tri b c with z | z | z
    · exact h1 (ltT_trans z h)
    · exact h1 (z ▸ h)
    · exact h2 z
  · rcases ltT_tri a b with z | z | z
    · simp [ltT_asym z]
    · subst z; simp [ltT_irr]
    · simp [ltT_asym z]
def pairsW (ws : List Str) : List (Str × Str) := ws.flatMap fun x => ws.map fun y => (x, y)
theorem mem_pairsW {ws : List Str} {p : Str × Str} : p ∈ pairsW ws ↔ p.1 ∈ ws ∧ p.2 ∈ ws := by
  obtain ⟨a, b⟩ := p
  simp [pairsW, List.mem_flatMap]
theorem leP_anti {p q : Str × Str} (a : leP p q) (b : leP q p) : p = q := by
  unfold leP at *
  rcases ltT_tri p.1 q.1 with c | c | c
  · exact absurd (.inl c) b
  · rcases ltT_tri p.2 q.2 with d | d | d
    · exact absurd (.inr ⟨c, d⟩) b
    · exact Prod.ext c d
    · exact absurd (.inr ⟨c.symm, d⟩) a
  · exact absurd (.inl c) a
theorem pairsW_sorted {ws : List Str} (h : Asc ws) : (pairsW ws).Pairwise leP := by
  have row : ∀ (x : Str) (vs : List Str), Asc vs → (vs.map fun y => (x, y)).Pairwise leP := fun x vs hv =>
    List.Pairwise.map _ (fun a b q => by
      rintro (z | ⟨_, z⟩)
      · exact ltT_irr _ z
      · exact ltT_asym q z) hv
  have all : ∀ us : List Str, Asc us → (us.flatMap fun x => ws.map fun y => (x, y)).Pairwise leP := by
    intro us
    induction us with
    | nil => exact fun _ => .nil
    | cons u us ih =>
      intro hu
      rw [List.flatMap_cons]
      have hu' := List.pairwise_cons.mp hu
      refine List.pairwise_append.mpr ⟨row u ws h, ih hu'.2, fun p hp q hq => ?_⟩
      obtain ⟨y, hy, rfl⟩ := List.mem_map.mp hp
      obtain ⟨x, hx, hq⟩ := List.mem_flatMap.mp hq
      obtain ⟨z, hz, rfl⟩ := List.mem_map.mp hq
      have lt := hu'.1 x hx
      rintro (k | ⟨k, _⟩)
      · exact ltT_asym lt k
      · have k' : x = u := k
        rw [k'] at lt
        exact ltT_irr u lt
  exact all ws h
theorem pairsW_nodup {ws : List Str} (h : ws.Nodup) : (pairsW ws).Nodup := by
  have all : ∀ us : List Str, us.Nodup → (us.flatMap fun x => ws.map fun y => (x, y)).Nodup := by
    intro us
    induction us with
    | nil => exact fun _ => .nil
    | cons u us ih =>
      intro hu
      rw [List.flatMap_cons]
      have hu' := List.nodup_cons.mp hu
      refine List.nodup_append.mpr ⟨List.Pairwise.map _ (fun a b q e => q (congrArg Prod.snd e)) h, ih hu'.2, fun p hp q hq e => ?_⟩
      obtain ⟨y, hy, rfl⟩ := List.mem_map.mp hp
      obtain ⟨x, hx, hq⟩ := List.mem_flatMap.mp hq
      obtain ⟨z, hz, rfl⟩ := List.mem_map.mp hq
      have : u = x := congrArg Prod.fst e
      exact hu'.1 (this ▸ hx)
  exact all ws h
theorem pairsW_len (ws : List Str) : (pairsW ws).length = ws.length * ws.length := by
  unfold pairsW
  simp [List.length_flatMap, List.map_const', List.sum_replicate_nat]
def valW (f : Str → Str → Str) (p : Str × Str) : V := .str (f p.1 p.2)
theorem keyP_inj (p q : Str × Str) (h : keyP p = keyP q) : p = q := by
  obtain ⟨a, b⟩ := p
  obtain ⟨c, d⟩ := q
  simp only [keyP, List.cons.injEq, Sum.inr.injEq, and_true] at h
  exact Prod.ext h.1 h.2
/-- the table of f over ws, in the order of ws -/
def tabW (ws : List Str) (f : Str → Str → Str) : List (List Key × V) := (pairsW ws).map fun p => (keyP p, valW f p)
abbrev SqW (ws : List Str) : Str × Str → Prop := fun p => p.1 ∈ ws ∧ p.2 ∈ ws
theorem tabW_tb {ws : List Str} {f : Str → Str → Str} (n : ws.Nodup) : TbG (SqW ws) keyP (valW f) (tabW ws f) :=
  (TbG.ofIdx keyP_inj (pairsW_nodup n)).congr fun p => mem_pairsW
theorem tabW_len (ws : List Str) (f : Str → Str → Str) : (tabW ws f).length = ws.length * ws.length := by
  unfold tabW
  rw [List.length_map, pairsW_len]
/-- one to four words, a product of them that is free of brackets -/
structure KW (ws : List Str) (f : Str → Str → Str) : Prop where
  asc : Asc ws
  pos : 0 < ws.length
  few : ws.length ≤ 4
  wd : ∀ x ∈ ws, Wd x
  cl : ∀ x y, x ∈ ws → y ∈ ws → f x y ∈ ws
  as : ∀ x y z, x ∈ ws → y ∈ ws → z ∈ ws → f (f x y) z = f x (f y z)
/-- entries by other indices -/
theorem TbG.reidx {ι κ : Type} {S : ι → Prop} {S' : κ → Prop} {key : ι → List Key} {val : ι → V} {key' : κ → List Key} {val' : κ → V} {kvs : List (List Key × V)} (h : TbG S key val kvs) (φ : ι → κ) (ψ : κ → ι)
    (a : ∀ i, S i → S' (φ i) ∧ key i = key' (φ i) ∧ val i = val' (φ i)) (b : ∀ j, S' j → S (ψ j) ∧ φ (ψ j) = j) : TbG S' key' val' kvs where
  nd := h.nd
  mem := fun e he => by
    obtain ⟨i, hi, rfl⟩ := h.mem e he
    obtain ⟨a1, a2, a3⟩ := a i hi
    exact ⟨φ i, a1, by rw [a2, a3]⟩
  has := fun j hj => by
    obtain ⟨b1, b2⟩ := b j hj
    have m := h.has _ b1
    obtain ⟨_, a2, a3⟩ := a _ b1
    rw [a2, a3, b2] at m
    exact m
/-- the sorted keys of such a dict are the pairs in order -/
theorem sorted_keys {W ws : List Str} {f : Str → Str → Str} {kvs : List (List Key × V)} (tb : TbG (SqW W) keyP (valW f) kvs) (n : W.Nodup) (as : Asc ws) (pm : ws.Perm W) : ∃ ps : List (Str × Str), kvs.map (·.1) = ps.map keyP ∧ ps.length = kvs.length ∧ kvs = ps.map (fun p => (keyP p, valW f p)) ∧ ∀ qs : List (Str × Str), qs.Perm ps → qs.Pairwise leP → qs = pairsW ws := by
  obtain ⟨is, e1, ndi, e2⟩ := tb.idxs keyP_inj
  refine ⟨is, by rw [e1, List.map_map]; rfl, by rw [e1, List.length_map], e1, fun qs h1 h2 => ?_⟩
  refine List.Perm.eq_of_pairwise (le := leP) (fun a b _ _ => leP_anti) h2 (pairsW_sorted as) (h1.trans ?_)
  refine (List.perm_ext_iff_of_nodup ndi (pairsW_nodup as.nodup)).mpr fun p => ?_
  rw [mem_pairsW, ← e2, pm.mem_iff, pm.mem_iff]
def prodW (W : List Str) (t : Nat → Nat → Nat) (x y : Str) : Str := W.getD (t (W.idxOf x) (W.idxOf y)) ⟨#[]⟩
theorem getD_mem {W : List Str} {j : Nat} (h : j < W.length) : W.getD j ⟨#[]⟩ ∈ W := by
  rw [List.getD_eq_getElem?_getD, List.getElem?_eq_getElem h]
  exact List.getElem_mem h
theorem idxOf_getD {W : List Str} {j : Nat} (n : W.Nodup) (h : j < W.length) : W.idxOf (W.getD j ⟨#[]⟩) = j := by
  rw [List.getD_eq_getElem?_getD, List.getElem?_eq_getElem h]
  exact List.Nodup.idxOf_getElem n j h
theorem getD_idxOf {W : List Str} {x : Str} (h : x ∈ W) : W.getD (W.idxOf x) ⟨#[]⟩ = x := by
  rw [List.getD_eq_getElem?_getD, List.getElem?_eq_getElem (List.idxOf_lt_length_of_mem h)]
  exact List.getElem_idxOf _
theorem kw_of {W : List Str} {n : Nat} {t : Nat → Nat → Nat} (fr : Free n t) (hn : W.length = n) (n0 : 0 < n) (n5 : n < 5) (nd : W.Nodup) (wd : ∀ x ∈ W, Wd x) : KW (ascOf W) (prodW W t) := by
  have pm := ascOf_perm W
  have lt : ∀ x, x ∈ W → W.idxOf x < n := fun x h => hn ▸ List.idxOf_lt_length_of_mem h
  have ix : ∀ x y, x ∈ W → y ∈ W → W.idxOf (prodW W t x y) = t (W.idxOf x) (W.idxOf y) := fun x y hx hy => idxOf_getD nd (by rw [hn]; exact fr.lt _ _ (lt x hx) (lt y hy))
  have mm : ∀ x y, x ∈ W → y ∈ W → prodW W t x y ∈ W := fun x y hx hy => getD_mem (by rw [hn]; exact fr.lt _ _ (lt x hx) (lt y hy))
  refine ⟨ascOf_asc nd, by rw [pm.length_eq, hn]; exact n0, by rw [pm.length_eq, hn]; omega, fun x hx => wd x (pm.mem_iff.mp hx), fun x y hx hy => pm.mem_iff.mpr (mm x y (pm.mem_iff.mp hx) (pm.mem_iff.mp hy)), fun x y z hx hy hz => ?_⟩
  have hx := pm.mem_iff.mp hx
  have hy := pm.mem_iff.mp hy
  have hz := pm.mem_iff.mp hz
  show W.getD (t (W.idxOf (prodW W t x y)) (W.idxOf z)) ⟨#[]⟩ = W.getD (t (W.idxOf x) (W.idxOf (prodW W t y z))) ⟨#[]⟩
  rw [ix x y hx hy, ix y z hy hz, fr.as _ _ _ (lt x hx) (lt y hy) (lt z hz)]
end KT
set_option Elab.async false
set_option linter.all false
set_option maxRecDepth 100000
set_option maxHeartbeats 4000000
namespace KT
open PySem L2 PyProof.Rows DTp
section
variable {P : Program} {w : World} {K : PySem.W.Frag} {mg : Str → Option Value} {base : Heap}
/-- dict([(key, value) for key in told]) -/
theorem rd_keys {ι : Type} {key key2 : ι → List Key} {val val2 : ι → V} {i : Nat} {g : TG} {te : TE} {vs : List Nat} {σ : L2.St} {H : Hp} {Q : VK} {d : Addr} {kvs : List (List Key × V)} {is : List ι} (hi : σ[i]? = some (some (.ref d))) (hd : H d = some (.dT kvs))
    (e1 : kvs = is.map fun a => (key a, val a)) (few : is.length ≤ 1000)
    (step : ∀ a q od H1 (R : VK), a ∈ is → L2.Same (upd H d (.frz od (.dT kvs))) H1 → H1 q = some (.tup ((key a).map kV)) → (∀ t b H3, L2.Same H1 H3 → H3 t = some (.tup [.ref b, val2 a]) → H3 b = some (.tup ((key2 a).map kV)) → R (.ref t) H3) → g (.ref q) (wipe σ vs) H1 fun σ2 H2 => wipe σ2 vs = wipe σ vs ∧ te σ2 H2 R)
    (k : ∀ q H', L2.Same H H' → H q = none → H' q = some (.dT (mergeT [] (is.map fun a => (key2 a, val2 a)))) → Q (.ref q) H') :
    tCB (rDictT K) (tCons (tLockE (tLc (iKeys (tVar i)) g tYes te vs)) tNil) σ H Q := by
  have li : is.length = kvs.length := by rw [e1, List.length_map]
  refine ⟨d, .dT kvs, hd, trivial, fun od => ?_⟩
  refine ⟨_, hi, d, od, rfl, .inr ⟨kvs, upd_same, fun D hD => ?_⟩⟩
  have nDd : D ≠ d := fun e => by rw [e, upd_same] at hD; cases hD
  have hD0 : H D = none := by rw [upd_ne nDd] at hD; exact hD
  refine lc_pairs (key := key2) (val := val2) walk_keysT is li (by omega) hD (fun H' s => s _ _ upd_same) ?_ ?_
  · rintro n x H1 H1' a R ha s1 ⟨rfl, kk, v, q, hk, rfl, hq⟩ kR
    have ek : kvs[n]? = some (key a, val a) := by rw [e1, List.getElem?_map, ha]; rfl
    rw [hk] at ek
    have ek := Option.some.inj ek
    obtain ⟨rfl, rfl⟩ : kk = key a ∧ v = val a := ⟨congrArg Prod.fst ek, congrArg Prod.snd ek⟩
    exact step a q od _ R (List.mem_of_getElem? ha) s1 hq kR
  · intro H1 ps s1 hDp pr
    have hdl : H1 d = some (.frz od (.dT kvs)) := s1 _ _ upd_same
    refine ⟨hdl, D, ps, is.map (fun i => (key2 i, val2 i)), rfl, SqL.of ((upd_ne nDd).trans hDp), ?_, fun q hq => ?_⟩
    · refine PrG.prT (key := key2) (val := val2) (is := is) (Paired.mapP pr fun p a ⟨b, h1, h2⟩ => ⟨b, ?_, ?_⟩)
      · rw [upd_ne (ne_of h1 hdl (fun z => nomatch z))]; exact h1
      · rw [upd_ne (ne_of h2 hdl (fun z => nomatch z))]; exact h2
    · have same : L2.Same H (upd H1 d (.dT kvs)) := fun b o e => by
        by_cases hb : b = d
        · rw [hb] at e ⊢
          rw [hd] at e
          rw [upd_same]; exact e
        · rw [upd_ne hb]
          exact s1 _ _ ((upd_ne hb).trans e)
      have hq0 := same.free hq
      refine k q _ (fun b o e => ?_) hq0 upd_same
      rw [upd_ne (ne_of_none e hq0)]
      exact same _ _ e
/-- dict([(key, value) for key in list]), the list's things the tuples at qs -/
theorem rd_list {ι : Type} {key2 : ι → List Key} {val2 : ι → V} {tl : TE} {g : TG} {te : TE} {vs : List Nat} {σ : L2.St} {H : Hp} {Q : VK} {is : List ι} (Pd : Hp → Prop) (few : is.length ≤ 1000)
    (hl : ∀ R : VK, (∀ l (qs : List (Addr × ι)) H1, qs.map (·.2) = is → H1 l = some (.lst (qs.map fun q => V.ref q.1)) → Pd H1 →
      (∀ (n : Nat) q H2 (R2 : VK), qs[n]? = some q → L2.Same H1 H2 → (∀ t b H3, L2.Same H2 H3 → H3 t = some (.tup [.ref b, val2 q.2]) → H3 b = some (.tup ((key2 q.2).map kV)) → R2 (.ref t) H3) → g (.ref q.1) (wipe σ vs) H2 fun σ2 H3 => wipe σ2 vs = wipe σ vs ∧ te σ2 H3 R2) → R (.ref l) H1) → tl σ H R)
    (k : ∀ q H1 H', Pd H1 → L2.Same H1 H' → H1 q = none → H' q = some (.dT (mergeT [] (is.map fun a => (key2 a, val2 a)))) → Q (.ref q) H') :
    tCB (rDictT K) (tCons (tLc (iList K tl) g tYes te vs) tNil) σ H Q := by
  refine hl _ fun l qs H1 eqs h1 s1 step => ?_
  have lq : qs.length = is.length := by rw [← eqs, List.length_map]
  refine ⟨l, rfl, ⟨_, SqL.of h1⟩, fun D hD => ?_⟩
  have nDl : l ≠ D := ne_of_none h1 hD
  refine lc_pairs (key := key2) (val := val2) (walk_list (xs := qs.map fun q => V.ref q.1)) is (by rw [List.length_map]; exact lq.symm) (by rw [List.length_map]; omega) hD (fun H' s => SqL.of (s _ _ h1)) ?_ ?_
  · rintro n x H2 H2' a R ha s2 ⟨rfl, hx⟩ kR
    rw [List.getElem?_map] at hx
    cases e : qs[n]? with
    | none => rw [e] at hx; cases hx
    | some q =>
      rw [e] at hx
      obtain rfl : V.ref q.1 = x := Option.some.inj hx
      have ea : q.2 = a := by
        rw [← eqs, List.getElem?_map, e] at ha
        exact Option.some.inj ha
      subst ea
      exact step n q _ R e s2 kR
  · intro H2 ps s2 hDp pr
    refine ⟨D, ps, is.map (fun i => (key2 i, val2 i)), rfl, SqL.of hDp, PrG.prT pr, fun q hq => ?_⟩
    have hq0 := s2.free hq
    refine k q _ _ s1 (fun b o e => ?_) hq0 upd_same
    rw [upd_ne (ne_of_none e hq0)]
    exact s2 _ _ e
end
end KT
set_option Elab.async false
set_option linter.all false
set_option maxRecDepth 100000
set_option maxHeartbeats 4000000
namespace KT
open PySem L2 PyProof.Rows DTp
/-- a statement whose end is told by the reader -/
def tCut (t : TS) : TS := fun D σ H => ∃ Pn : L2.St → Hp → Prop, t { D with nx := Pn } σ H ∧ ∀ σ' H', Pn σ' H' → D.nx σ' H'
theorem ps_cut {X : Cx} {st : Stmt} {t : TS} (h : PS X st t) : PS X st (tCut t) := by
  refine ⟨fun pins s σ H D I hw => ?_⟩
  obtain ⟨Pn, hw, kn⟩ := hw
  refine thn (h.run pins s σ _ _ I hw) fun f s1 q => ?_
  cases f with
  | next => obtain ⟨σ', H', I2, q⟩ := q; exact ⟨σ', _, I2, kn _ _ q⟩
  | brk => exact q
  | cont => exact q
  | ret v => exact q
/-- a test whose end is told by the reader -/
def tCutT (t : TT) : TT := fun σ H Q => ∃ Pn : Bool → Hp → Prop, t σ H Pn ∧ ∀ b H', Pn b H' → Q b H'
theorem pt_cut {X : Cx} {e : Expr} {t : TT} (h : PT X e t) : PT X e (tCutT t) := ⟨fun pins s σ H Q I hw => by
  obtain ⟨Pn, hw, kn⟩ := hw
  exact thn (h.run pins s σ H _ I hw) fun c s1 ⟨H1, I1, q⟩ => ⟨H1, I1, kn _ _ q⟩⟩
section
variable {P : Program} {w : World} {K : PySem.W.Frag} {mg : Str → Option Value} {base : Heap}
theorem TabAt.but {H H' : Hp} {a p : Addr} {n : Nat} {t : Nat → Nat → Nat} (b : But p H H') (h : TabAt H a n t) (ne : a ≠ p) : TabAt H' a n t := let ⟨kvs, h1, h2⟩ := h; ⟨kvs, b a _ ne h1, h2⟩
theorem TabAt.ne {H : Hp} {a p : Addr} {n : Nat} {t : Nat → Nat → Nat} {B : Int} (h : TabAt H a n t) (hP : PurseAt H p B) : a ≠ p := fun e => by
  obtain ⟨kvs, h1, _⟩ := h
  obtain ⟨_, _, _, _, q, _⟩ := hP
  rw [e, q] at h1
  cases h1
theorem swap_inj (i j : Ix) (h : keyI (i.2, i.1) = keyI (j.2, j.1)) : i = j := by
  have e := keyI_inj _ _ h
  obtain ⟨a, b⟩ := i
  obtain ⟨c, d⟩ := j
  simp only [Prod.mk.injEq] at e
  exact Prod.ext e.2 e.1
def spTable : Sp := fun vs H Q _ => ∃ (p : Addr) (B : Int) (mo : Nat), vs = [.ref p, .int mo] ∧ 0 < mo ∧ mo ≤ 4 ∧ PurseAt H p B ∧ 0 ≤ B ∧ B ≤ 900000 ∧
  ∀ (q : Addr) (ws : List Str) (f : Str → Str → Str) (H' : Hp), H q = none → But p H H' → PurseAt H' p (B + 2000) → H' q = some (.dT (tabW ws f)) → KW ws f → Q (.ref q) H'
abbrev nTable : List Str := ["_law_purse_here", "_law_most", "_law_many", "_law_way", "_law_told", "_law_late", "_law_words_here", "_law_named", "_law_x", "_law_y", "_law_pair"]
theorem scTable : FnScope nTable ["_law_purse_here", "_law_most"] (defScope sTable) := ⟨rfl, rfl, rfl, by decide +kernel, rfl, by decide +kernel, by decide +kernel⟩
structure TabC (P : Program) (w : World) (K : PySem.W.Frag) (mg : Str → Option Value) (base : Heap) : Prop where
  draw : DrawC P w K mg base
  plain : Cee P w K mg base 1 "_law_plain_table" ["_law_way", "_law_many"] spPlain
  wide : Cee P w K mg base 1 "_law_wide_table" ["_law_told", "_law_many", "_law_way"] spWide
  two : Cee P w K mg base 1 "_law_twofold_table" ["_law_one", "_law_other"] spTwo
  twin : Cee P w K mg base 1 "_law_twin_table" ["_law_told", "_law_many", "_law_twin"] spTwin
  lead : Cee P w K mg base 1 "_law_leading_table" ["_law_told", "_law_many"] spLead
  any : Cee P w K mg base 3 "_law_any_table" ["_law_purse_here", "_law_many"] spAnyT
  words : Cee P w K mg base 4 "_law_words" ["_law_purse_here", "_law_many"] spWords
abbrev gXY (K : PySem.W.Frag) (i j : Nat) : TG := gTup K 2 (gCons (gName i) (gCons (gName j) gNil))
theorem ok_table {f : Addr} {fd : FuncData} (F : Fun K "_law_table" "_law_table" sTable f fd) (T : Blt mg) (hdi : mg "dict" = none) (hso : mg "sorted" = none) (C : TabC P w K mg base) : FnOk P w K mg base CX0 5 f fd ["_law_purse_here", "_law_most"] spTable := by
  refine F.ok scTable (fun vs H Q E h => ?_) (fun cdv A outer s H vs Q E hr h => ?_)
  · obtain ⟨p, B, mo, rfl, _⟩ := h
    rfl
  · obtain ⟨p, B, mo, rfl, mo0, mo4, hP, B0, B1, k⟩ := h
    have nd := scTable.nd
    have hun := hr.units
    refine ⟨_, pss_cons (ps_set (i := 2) nd rfl (Or.inl rfl) (pe_op op_add pe_int (pe_c C.draw hr rfl (pa_cons (pv 0) (pa_cons (pv 1) pa_nil)))))
      (pss_cons (ps_asg (pe_tup (pa_cons (pe_c C.draw hr rfl (pa_cons (pv 0) (pa_cons pe_int pa_nil))) (pa_cons pe_non (pa_cons (pe_c C.draw hr rfl (pa_cons (pv 0) (pa_cons pe_int pa_nil))) pa_nil))))
        (pg_tup rfl (pgs_cons (pg_name (i := 3) nd rfl (Or.inl rfl)) (pgs_cons (pg_name (i := 4) nd rfl (Or.inr rfl)) (pgs_cons (pg_name (i := 5) nd rfl (Or.inl rfl)) pgs_nil)))))
      (pss_cons (ps_cut (ps_if (pt_cut <| PW.pt (pw_and (pt_cmpR op_eq (pv 2) pe_int (nomark _)) (pw_and1 (pt_cmpR op_eq (pe_c C.draw hr rfl (pa_cons (pv 0) (pa_cons pe_int pa_nil))) pe_int (nomark _)))))
          (pss_one (ps_set (i := 4) nd rfl (Or.inr rfl) (pe_c C.two hr rfl (pa_cons (pe_c C.plain hr rfl (pa_cons (pv 3) (pa_cons pe_int pa_nil))) (pa_cons (pe_c C.plain hr rfl (pa_cons (pe_c C.draw hr rfl (pa_cons (pv 0) (pa_cons pe_int pa_nil))) (pa_cons pe_int pa_nil))) pa_nil)))))
        (pss_one (ps_if (pt_cut <| PW.pt (pw_and (pt_cmpR op_gt (pv 2) pe_int (nomark _)) (pw_and1 (pt_cmpR op_lt (pv 5) pe_int (nomark _)))))
          (pss_one (ps_set (i := 4) nd rfl (Or.inr rfl) (pe_c C.wide hr rfl (pa_cons (pe_c C.plain hr rfl (pa_cons (pv 3) (pa_cons (pe_op op_sub (pv 2) pe_int) pa_nil))) (pa_cons (pe_op op_sub (pv 2) pe_int) (pa_cons (pv 5) pa_nil))))))
        (pss_one (ps_if (pt_cut <| PW.pt (pw_and (pt_cmpR op_gt (pv 2) pe_int (nomark _)) (pw_and1 (pt_cmpR op_eq (pv 5) pe_int (nomark _)))))
          (pss_one (ps_set (i := 4) nd rfl (Or.inr rfl) (pe_c C.twin hr rfl (pa_cons (pe_c C.plain hr rfl (pa_cons (pv 3) (pa_cons (pe_op op_sub (pv 2) pe_int) pa_nil))) (pa_cons (pe_op op_sub (pv 2) pe_int) (pa_cons (pe_c C.draw hr rfl (pa_cons (pv 0) (pa_cons (pe_op op_sub (pv 2) pe_int) pa_nil))) pa_nil))))))
        (pss_one (ps_if (pt_cut <| PW.pt (pw_and (pt_cmpR op_gt (pv 2) pe_int (nomark _)) (pw_and1 (pt_cmpR op_eq (pv 5) pe_int (nomark _)))))
          (pss_one (ps_set (i := 4) nd rfl (Or.inr rfl) (pe_c C.lead hr rfl (pa_cons (pe_c C.plain hr rfl (pa_cons (pe_op op_add pe_int (pe_c C.draw hr rfl (pa_cons (pv 0) (pa_cons pe_int pa_nil)))) (pa_cons (pe_op op_sub (pv 2) pe_int) pa_nil))) (pa_cons (pe_op op_sub (pv 2) pe_int) pa_nil)))))
        (pss_one (ps_if (pt_cmpR op_lt (pv 5) pe_int (nomark _))
          (pss_one (ps_set (i := 4) nd rfl (Or.inr rfl) (pe_c C.any hr rfl (pa_cons (pv 0) (pa_cons (pv 2) pa_nil)))))
          (pss_one (ps_set (i := 4) nd rfl (Or.inr rfl) (pe_c C.plain hr rfl (pa_cons (pv 3) (pa_cons (pv 2) pa_nil)))))))))))))))
      (pss_cons (ps_cut (ps_if (pt_cmpR op_eq (pe_c C.draw hr rfl (pa_cons (pv 0) (pa_cons pe_int pa_nil))) pe_int (nomark _))
        (pss_one (ps_set (i := 4) nd rfl (Or.inr rfl) (pe_callTy (cr_dictT rfl (u2 hr.units)) (by rfl) hdi (by decide +kernel) (pa_cons (pe_lock (pe_lc (own := [("_law_x", 8), ("_law_y", 9)]) (g := gXY K 8 9) (tt := tYes)
            (te := tTup (tCons (tTup (tCons (tVar 9) (tCons (tVar 8) tNil))) (tCons (tDGet (tVar 4) (tTup (tCons (tVar 8) (tCons (tVar 9) tNil)))) tNil))) rfl nd (pi_keys (pv 4))
            (blkOk_by (own := [("_law_x", 8), ("_law_y", 9)]) (N := nTable) (sc := defScope sTable) (by decide +kernel)) (fun _ _ _ _ _ => pg_tup rfl (pgs_cons (pg_name (i := 8) nd rfl (Or.inl rfl)) (pgs_cons (pg_name (i := 9) nd rfl (Or.inl rfl)) pgs_nil))) (fun _ _ _ _ _ => pts_nil)
            (fun _ _ _ _ _ => pe_tup (pa_cons (pe_tup (pa_cons (pv 9) (pa_cons (pv 8) pa_nil))) (pa_cons (pe_dget (hu_of hr) (pv 4) (pe_tup (pa_cons (pv 8) (pa_cons (pv 9) pa_nil))) (fun _ _ => rfl)) pa_nil))))) pa_nil)))) pss_nil))
      (pss_cons (ps_set (i := 6) nd rfl (Or.inr rfl) (pe_c C.words hr rfl (pa_cons (pv 0) (pa_cons (pv 2) pa_nil))))
      (pss_cons (ps_set (i := 7) nd rfl (Or.inr rfl) (pe_callTy (cr_dictT rfl (u2 hr.units)) (by rfl) hdi (by decide +kernel) (pa_cons (pe_lock (pe_lc (own := [("_law_x", 8), ("_law_y", 9)]) (g := gXY K 8 9) (tt := tYes)
            (te := tTup (tCons (tTup (tCons (tOp (rIxL K) (tVar 6) (tVar 8)) (tCons (tOp (rIxL K) (tVar 6) (tVar 9)) tNil))) (tCons (tOp (rIxL K) (tVar 6) (tDGet (tVar 4) (tTup (tCons (tVar 8) (tCons (tVar 9) tNil))))) tNil))) rfl nd (pi_keys (pv 4))
            (blkOk_by (own := [("_law_x", 8), ("_law_y", 9)]) (N := nTable) (sc := defScope sTable) (by decide +kernel)) (fun _ _ _ _ _ => pg_tup rfl (pgs_cons (pg_name (i := 8) nd rfl (Or.inl rfl)) (pgs_cons (pg_name (i := 9) nd rfl (Or.inl rfl)) pgs_nil))) (fun _ _ _ _ _ => pts_nil)
            (fun _ _ _ _ _ => pe_tup (pa_cons (pe_tup (pa_cons (pe_ix ix_list (pv 6) (pv 8) (fun _ _ => rfl)) (pa_cons (pe_ix ix_list (pv 6) (pv 9) (fun _ _ => rfl)) pa_nil))) (pa_cons (pe_ix ix_list (pv 6) (pe_dget (hu_of hr) (pv 4) (pe_tup (pa_cons (pv 8) (pa_cons (pv 9) pa_nil))) (fun _ _ => rfl)) (fun _ _ => rfl)) pa_nil))))) pa_nil)))
      (pss_one (ps_ret (pe_callTy (cr_dictT rfl (u2 hr.units)) (by rfl) hdi (by decide +kernel) (pa_cons (pe_lc (own := [("_law_pair", 10)]) (g := gName 10) (tt := tYes)
            (te := tTup (tCons (tVar 10) (tCons (tDGet (tVar 7) (tVar 10)) tNil))) rfl nd (pi_list (pe_callB (cr_sortT rfl hr.units) (by rfl) hso (by decide +kernel) (pa_cons (pv 7) pa_nil)))
            (blkOk_by (own := [("_law_pair", 10)]) (N := nTable) (sc := defScope sTable) (by decide +kernel)) (fun _ _ _ _ _ => pg_name (i := 10) nd rfl (Or.inl rfl)) (fun _ _ _ _ _ => pts_nil)
            (fun _ _ _ _ _ => pe_tup (pa_cons (pv 10) (pa_cons (pe_dget (hu_of hr) (pv 7) (pv 10) (fun _ _ => rfl)) pa_nil)))) pa_nil))))))))), ?_⟩
    refine ⟨_, rfl, _, rfl, p, (mo : Nat), B, rfl, hP, B0, by omega, by omega, Int.lt_of_le_of_lt (show _ ≤ (4 : Int) by omega) (by decide), fun r1 H1 bt1 hP1 r10 r11 => ?_⟩
    obtain ⟨m, rfl⟩ := nat_of (m := 0) r10
    obtain ⟨n, en⟩ : ∃ n : Nat, n = m + 1 := ⟨_, rfl⟩
    have n0 : 0 < n := by omega
    have n5 : n < 5 := by omega
    refine ⟨_, _, rfl, rfl, ?_⟩
    refine at_name (σ' := [some (.ref p), some (.int (mo : Nat)), some (.int (n : Int)), none, none, none, none, none, none, none, none]) (by rw [← show (1 : Int) + (m : Int) = (n : Int) by omega]; rfl) ?_
    refine ⟨_, rfl, p, 8, _, rfl, hP1, by omega, by omega, by decide, by decide, fun r2 H2 bt2 hP2 r20 r21 => ?_⟩
    refine ⟨_, rfl, p, 9, _, rfl, hP2, by omega, by omega, by decide, by decide, fun r3 H3 bt3 hP3 r30 r31 => ?_⟩
    obtain ⟨way, rfl⟩ := nat_of (m := 0) r20
    obtain ⟨late, rfl⟩ := nat_of (m := 0) r30
    have hway : way < 8 := by omega
    refine ⟨(by show 3 ≤ sizeLine; decide), fun tt htt => ?_⟩
    have btt := bt1.trans (bt2.trans bt3)
    have a1 := Same.new (H := H3) (o := .tup [V.int (way : Int), .non, V.int (late : Int)]) htt
    have a2 : upd H3 tt (.tup [V.int (way : Int), .non, V.int (late : Int)]) tt = _ := upd_same
    generalize upd H3 tt (.tup [V.int (way : Int), .non, V.int (late : Int)]) = G at a1 a2 ⊢
    have btG : But p H G := btt.same a1
    have hPG : PurseAt G p (B + 12) := (hP3.mono a1).le (by omega)
    refine ⟨tt, _, rfl, SqT.of a2, rfl, _, _, rfl, ?_⟩
    refine at_name (σ' := [some (.ref p), some (.int (mo : Nat)), some (.int (n : Int)), some (.int (way : Int)), none, none, none, none, none, none, none]) rfl ?_
    refine ⟨_, _, rfl, ?_⟩
    refine at_name (σ' := [some (.ref p), some (.int (mo : Nat)), some (.int (n : Int)), some (.int (way : Int)), some .non, none, none, none, none, none, none]) rfl ?_
    refine ⟨_, _, rfl, ?_⟩
    refine at_name (σ' := [some (.ref p), some (.int (mo : Nat)), some (.int (n : Int)), some (.int (way : Int)), some .non, some (.int (late : Int)), none, none, none, none, none]) rfl ?_
    refine ⟨rfl, ?_⟩
    clear a2 htt a1 hP1 hP2 hP3 bt1 bt2 bt3 btt
    refine ⟨fun σ H' => ∃ (d : Addr) (t : Nat → Nat → Nat), σ = [some (.ref p), some (.int (mo : Nat)), some (.int (n : Int)), some (.int (way : Int)), some (.ref d), some (.int (late : Int)), none, none, none, none, none] ∧ But p H H' ∧ PurseAt H' p (B + 150) ∧ TabAt H' d n t ∧ Free n t, ?_, ?_⟩
    · refine ⟨fun b H' => But p H H' ∧ PurseAt H' p (B + 16) ∧ (b = true → n = 4), ?_, ?_⟩
      · refine ⟨_, rfl, rfl, _, rfl, ?_⟩
        refine ite2 (fun h4 => ?_) (fun h4 => ?_)
        · have e4 : n = 4 := by
            have := of_decide_eq_true h4
            injection this with e
            omega
          refine ⟨_, rfl, p, 3, _, rfl, hPG, by omega, by omega, by decide, by decide, fun r H4 bt4 hP4 r0 r1 => ?_⟩
          exact ⟨rfl, _, rfl, btG.trans bt4, hP4.le (by omega), fun _ => e4⟩
        · exact ⟨btG, hPG.le (by omega), fun e => (by cases e)⟩
      · rintro b H4 ⟨bt4, hP4, h4⟩
        refine ite2 (fun hb => ?_) (fun hb => ?_)
        · have e4 := h4 hb
          refine ⟨_, rfl, way, 2, rfl, hway, by decide, by decide, fun a H5 s5 ha5 ta => ?_⟩
          refine ⟨_, rfl, p, 8, _, rfl, hP4.mono s5, by omega, by omega, by decide, by decide, fun r H6 bt6 hP6 r0 r1 => ?_⟩
          obtain ⟨v, rfl⟩ := nat_of (m := 0) r0
          refine ⟨v, 2, rfl, by omega, by decide, by decide, fun b2 H7 s7 hb7 tb => ?_⟩
          have nap : a ≠ p := fun e => by
            obtain ⟨_, _, _, _, q, _⟩ := hP4
            rw [e, q] at ha5
            cases ha5
          refine ⟨a, b2, _, _, rfl, (ta.but bt6 nap).mono s7, tb, fun q H8 s8 hq tq => ?_⟩
          refine at_name (σ' := [some (.ref p), some (.int (mo : Nat)), some (.int (n : Int)), some (.int (way : Int)), some (.ref q), some (.int (late : Int)), none, none, none, none, none]) rfl ?_
          refine ⟨q, twofoldT (plainT way 2) (plainT v 2), rfl, (((bt4.same s5).trans bt6).same s7).same s8, ((hP6.mono s7).mono s8).le (by omega), ?_, ?_⟩
          · rw [e4]; exact tq
          · rw [e4]; exact free_of (twofold_free way hway v (by omega))
        · refine ⟨fun b H' => H' = H4 ∧ (b = true → 1 < n ∧ late < 2), ?_, ?_⟩
          · refine ⟨_, rfl, _, _, rfl, rfl, _, rfl, ?_⟩
            refine ite2 (fun h1 => ?_) (fun h1 => ?_)
            · have h1 := of_decide_eq_true h1
              refine ⟨_, rfl, _, _, rfl, rfl, _, rfl, rfl, fun h2 => ?_⟩
              have h2 := of_decide_eq_true h2
              exact ⟨by omega, by omega⟩
            · exact ⟨rfl, fun e => (by cases e)⟩
          · rintro b H5 ⟨rfl, hc⟩
            refine ite2 (fun hb => ?_) (fun hb => ?_)
            · obtain ⟨c1, c2⟩ := hc hb
              have en1 : (n : Int) - 1 = ((n - 1 : Nat) : Int) := by omega
              have en2 : n - 1 + 1 = n := by omega
              refine ⟨_, rfl, _, rfl, _, _, rfl, rfl, ?_⟩
              refine ⟨way, n - 1, by rw [← en1]; rfl, hway, by omega, by omega, fun a H6 s6 ha6 ta => ?_⟩
              refine ⟨_, rfl, _, _, rfl, rfl, _, rfl, ?_⟩
              refine ⟨a, n - 1, late, _, by rw [← en1]; rfl, by omega, by omega, ta, fun q H7 s7 hq tq => ?_⟩
              refine at_name (σ' := [some (.ref p), some (.int (mo : Nat)), some (.int (n : Int)), some (.int (way : Int)), some (.ref q), some (.int (late : Int)), none, none, none, none, none]) rfl ?_
              rw [en2] at tq
              have fr := free_of (wide_free way hway (n - 1) (by omega) (by omega) late c2)
              rw [en2] at fr
              exact ⟨q, _, rfl, (bt4.same s6).same s7, ((hP4.mono s6).mono s7).le (by omega), tq, fr⟩
            · refine ⟨fun b H' => H' = H5 ∧ (b = true → 1 < n), ?_, ?_⟩
              · refine ⟨_, rfl, _, _, rfl, rfl, _, rfl, ?_⟩
                refine ite2 (fun h1 => ?_) (fun h1 => ?_)
                · have h1 := of_decide_eq_true h1
                  exact ⟨_, rfl, rfl, _, rfl, rfl, fun _ => by omega⟩
                · exact ⟨rfl, fun e => (by cases e)⟩
              · rintro b H6 ⟨rfl, hc⟩
                refine ite2 (fun hb => ?_) (fun hb => ?_)
                · have c1 := hc hb
                  have en1 : (n : Int) - 1 = ((n - 1 : Nat) : Int) := by omega
                  have en2 : n - 1 + 1 = n := by omega
                  refine ⟨_, rfl, _, rfl, _, _, rfl, rfl, ?_⟩
                  refine ⟨way, n - 1, by rw [← en1]; rfl, hway, by omega, by omega, fun a H7 s7 ha7 ta => ?_⟩
                  refine ⟨_, rfl, _, _, rfl, rfl, _, rfl, _, rfl, _, _, rfl, rfl, ?_⟩
                  refine ⟨p, _, _, rfl, hP4.mono s7, by omega, by omega, by omega, by omega, fun r H8 bt8 hP8 r0 r1 => ?_⟩
                  obtain ⟨v, rfl⟩ := nat_of (m := 0) r0
                  have nap : a ≠ p := fun e => by
                    obtain ⟨_, _, _, _, q, _⟩ := hP4
                    rw [e, q] at ha7
                    cases ha7
                  refine ⟨a, n - 1, v, _, by rw [← en1]; rfl, by omega, by omega, by omega, ta.but bt8 nap, fun q H9 s9 hq tq => ?_⟩
                  refine at_name (σ' := [some (.ref p), some (.int (mo : Nat)), some (.int (n : Int)), some (.int (way : Int)), some (.ref q), some (.int (late : Int)), none, none, none, none, none]) rfl ?_
                  rw [en2] at tq
                  have fr := free_of (twin_free way hway (n - 1) (by omega) (by omega) v (by omega))
                  rw [en2] at fr
                  exact ⟨q, _, rfl, ((bt4.same s7).trans bt8).same s9, (hP8.mono s9).le (by omega), tq, fr⟩
                · refine ⟨fun b H' => H' = H6 ∧ (b = true → 1 < n), ?_, ?_⟩
                  · refine ⟨_, rfl, _, _, rfl, rfl, _, rfl, ?_⟩
                    refine ite2 (fun h1 => ?_) (fun h1 => ?_)
                    · have h1 := of_decide_eq_true h1
                      exact ⟨_, rfl, rfl, _, rfl, rfl, fun _ => by omega⟩
                    · exact ⟨rfl, fun e => (by cases e)⟩
                  · rintro b H7 ⟨rfl, hc⟩
                    refine ite2 (fun hb => ?_) (fun hb => ?_)
                    · have c1 := hc hb
                      have en1 : (n : Int) - 1 = ((n - 1 : Nat) : Int) := by omega
                      have en2 : n - 1 + 1 = n := by omega
                      refine ⟨_, rfl, p, 2, _, rfl, hP4, by omega, by omega, by decide, by decide, fun r H8 bt8 hP8 r0 r1 => ?_⟩
                      obtain ⟨v, rfl⟩ := nat_of (m := 0) r0
                      refine ⟨_, _, rfl, rfl, _, rfl, _, _, rfl, rfl, ?_⟩
                      refine ⟨1 + v, n - 1, by rw [← en1]; rfl, by omega, by omega, by omega, fun a H9 s9 ha9 ta => ?_⟩
                      refine ⟨_, rfl, _, _, rfl, rfl, ?_⟩
                      refine ⟨a, n - 1, _, by rw [← en1]; rfl, by omega, by omega, ta, fun q H10 s10 hq tq => ?_⟩
                      refine at_name (σ' := [some (.ref p), some (.int (mo : Nat)), some (.int (n : Int)), some (.int (way : Int)), some (.ref q), some (.int (late : Int)), none, none, none, none, none]) rfl ?_
                      rw [en2] at tq
                      have fr := free_of (lead_free (1 + v) (by omega) (by omega) (n - 1) (by omega) (by omega))
                      rw [en2] at fr
                      exact ⟨q, _, rfl, ((bt4.trans bt8).same s9).same s10, ((hP8.mono s9).mono s10).le (by omega), tq, fr⟩
                    · refine ⟨_, rfl, _, _, rfl, rfl, _, rfl, ?_⟩
                      refine ite2 (fun _ => ?_) (fun _ => ?_)
                      · refine ⟨_, rfl, _, rfl, p, n, _, rfl, hP4, by omega, by omega, n0, n5, fun q t H8 hq bt8 hP8 tq fr => ?_⟩
                        refine at_name (σ' := [some (.ref p), some (.int (mo : Nat)), some (.int (n : Int)), some (.int (way : Int)), some (.ref q), some (.int (late : Int)), none, none, none, none, none]) rfl ?_
                        exact ⟨q, _, rfl, bt4.trans bt8, hP8.le (by omega), tq, fr⟩
                      · refine ⟨_, rfl, _, rfl, way, n, rfl, hway, n0, n5, fun q H8 s8 hq tq => ?_⟩
                        refine at_name (σ' := [some (.ref p), some (.int (mo : Nat)), some (.int (n : Int)), some (.int (way : Int)), some (.ref q), some (.int (late : Int)), none, none, none, none, none]) rfl ?_
                        exact ⟨q, _, rfl, bt4.same s8, (hP4.mono s8).le (by omega), tq, free_of (plain_free way hway n n5 n0)⟩
    · rintro σ H4 ⟨d, t, rfl, bt4, hP4, td, fr⟩
      have hun2 := u2 hr.units
      refine ⟨fun σ H' => ∃ (d : Addr) (t : Nat → Nat → Nat), σ = [some (.ref p), some (.int (mo : Nat)), some (.int (n : Int)), some (.int (way : Int)), some (.ref d), some (.int (late : Int)), none, none, none, none, none] ∧ But p H H' ∧ PurseAt H' p (B + 160) ∧ TabAt H' d n t ∧ Free n t, ?_, ?_⟩
      · refine ⟨_, rfl, p, 3, _, rfl, hP4, by omega, by omega, by decide, by decide, fun r H5 bt5 hP5 _ _ => ?_⟩
        have ndp := td.ne hP4
        have td5 := td.but bt5 ndp
        refine ⟨rfl, _, rfl, ?_⟩
        refine ite2 (fun _ => ?_) (fun _ => ?_)
        · obtain ⟨kvs, hd, tb⟩ := td5
          obtain ⟨is, e1, ndi, e2⟩ := tb.idxs keyI_inj
          have lis : is.length ≤ 1000 := by
            have := sq_len (n := 4) (t := t) tb fun i hi => ⟨by have := hi.1; omega, by have := hi.2; omega⟩
            rw [e1, List.length_map] at this
            omega
          refine rd_keys (key := keyI) (key2 := fun i : Ix => keyI (i.2, i.1)) (val := valI t) (val2 := valI t) rfl hd e1 lis ?_ ?_
          · rintro ⟨x, y⟩ q od H6 R ha s6 hq kR
            obtain ⟨hx, hy⟩ : x < n ∧ y < n := (e2 (x, y)).mpr ha
            have hq' : H6 q = some (.tup [V.int (x : Int), V.int (y : Int)]) := hq
            have tr : TabRd H6 d n t := ⟨kvs, .inr ⟨od, s6 _ _ upd_same⟩, tb⟩
            refine ⟨q, _, rfl, SqT.of hq', rfl, _, _, rfl, ?_⟩
            refine at_name (σ' := [some (.ref p), some (.int (mo : Nat)), some (.int (n : Int)), some (.int (way : Int)), some (.ref d), some (.int (late : Int)), none, none, some (.int (x : Int)), none, none]) rfl ?_
            refine ⟨_, _, rfl, ?_⟩
            refine at_name (σ' := [some (.ref p), some (.int (mo : Nat)), some (.int (n : Int)), some (.int (way : Int)), some (.ref d), some (.int (late : Int)), none, none, some (.int (x : Int)), some (.int (y : Int)), none]) rfl ?_
            refine ⟨rfl, rfl, ?_⟩
            refine ⟨_, rfl, _, rfl, (by show 2 ≤ sizeLine; decide), fun b hb => ?_⟩
            have b1 := Same.new (H := H6) (o := .tup [V.int (y : Int), V.int (x : Int)]) hb
            have b2 : upd H6 b (.tup [V.int (y : Int), V.int (x : Int)]) b = _ := upd_same
            generalize upd H6 b (.tup [V.int (y : Int), V.int (x : Int)]) = G1 at b1 b2 ⊢
            refine ⟨_, rfl, _, rfl, _, rfl, (by show 2 ≤ sizeLine; decide), fun t1 ht1 => ?_⟩
            have c1 := Same.new (H := G1) (o := .tup [V.int (x : Int), V.int (y : Int)]) ht1
            have c2 : upd G1 t1 (.tup [V.int (x : Int), V.int (y : Int)]) t1 = _ := upd_same
            generalize upd G1 t1 (.tup [V.int (x : Int), V.int (y : Int)]) = G2 at c1 c2 ⊢
            refine ⟨d, _, rfl, ((tr.mono b1).mono c1).get hx hy c2, (by show 2 ≤ sizeLine; decide), fun t2 ht2 => ?_⟩
            have d1 := Same.new (H := G2) (o := .tup [V.ref b, V.int (t x y : Nat)]) ht2
            exact kR t2 b _ (fun z o e => d1 _ _ (c1 _ _ (b1 _ _ e))) upd_same (d1 _ _ (c1 _ _ b2))
          · intro q H6 s6 hq0 hq
            refine at_name (σ' := [some (.ref p), some (.int (mo : Nat)), some (.int (n : Int)), some (.int (way : Int)), some (.ref q), some (.int (late : Int)), none, none, none, none, none]) rfl ?_
            refine ⟨q, fun x y => t y x, rfl, (bt4.trans bt5).same s6, (hP5.mono s6).le (by omega), ⟨_, hq, ?_⟩, fr.turn⟩
            have tm := (TbG.merge (val := valI t) swap_inj is TbG.nil).congr (S' := Sq n) fun a => by rw [false_or]; exact (e2 a).symm
            exact tm.reidx (fun i => (i.2, i.1)) (fun i => (i.2, i.1)) (fun i hi => ⟨⟨hi.2, hi.1⟩, rfl, rfl⟩) (fun i hi => ⟨⟨hi.2, hi.1⟩, rfl⟩)
        · exact ⟨d, t, rfl, bt4.trans bt5, hP5.le (by omega), td5, fr⟩
      · rintro σ H5 ⟨d, t, rfl, bt5, hP5, td, fr⟩
        refine ⟨_, rfl, _, rfl, p, n, _, rfl, hP5, by omega, by omega, by omega, by omega, fun L W H6 hL0 bt6 hP6 hL lw wd ndw => ?_⟩
        have ndp := td.ne hP5
        have td6 := td.but bt6 ndp
        have bt56 := bt5.trans bt6
        have lw' : W.length = n := by omega
        have kw := kw_of fr lw' n0 n5 ndw wd
        refine at_name (σ' := [some (.ref p), some (.int (mo : Nat)), some (.int (n : Int)), some (.int (way : Int)), some (.ref d), some (.int (late : Int)), some (.ref L), none, none, none, none]) rfl ?_
        obtain ⟨kvs, hd, tb⟩ := td6
        obtain ⟨is, e1, ndi, e2⟩ := tb.idxs keyI_inj
        have lis : is.length ≤ 16 := by
          have := sq_len (n := 4) (t := t) tb fun i hi => ⟨by have := hi.1; omega, by have := hi.2; omega⟩
          rw [e1, List.length_map] at this
          omega
        have wj : ∀ j, j < n → (W.map V.str)[j]? = some (.str (W.getD j ⟨#[]⟩)) := fun j hj => by
          rw [List.getElem?_map, List.getD_eq_getElem?_getD, List.getElem?_eq_getElem (by omega)]
          rfl
        refine rd_keys (key := keyI) (key2 := fun i : Ix => keyP (W.getD i.1 ⟨#[]⟩, W.getD i.2 ⟨#[]⟩)) (val := valI t) (val2 := fun i : Ix => valW (prodW W t) (W.getD i.1 ⟨#[]⟩, W.getD i.2 ⟨#[]⟩)) rfl hd e1 (by omega) ?_ ?_
        · rintro ⟨x, y⟩ q od H7 R ha s7 hq kR
          obtain ⟨hx, hy⟩ : x < n ∧ y < n := (e2 (x, y)).mpr ha
          have hq' : H7 q = some (.tup [V.int (x : Int), V.int (y : Int)]) := hq
          have tr : TabRd H7 d n t := ⟨kvs, .inr ⟨od, s7 _ _ upd_same⟩, tb⟩
          have nLd : L ≠ d := fun e => by rw [e, hd] at hL; cases hL
          have hL7 : H7 L = some (.lst (W.map V.str)) := s7 _ _ ((upd_ne nLd).trans hL)
          have ev : prodW W t (W.getD x ⟨#[]⟩) (W.getD y ⟨#[]⟩) = W.getD (t x y) ⟨#[]⟩ := by
            unfold prodW
            rw [idxOf_getD ndw (by omega), idxOf_getD ndw (by omega)]
          refine ⟨q, _, rfl, SqT.of hq', rfl, _, _, rfl, ?_⟩
          refine at_name (σ' := [some (.ref p), some (.int (mo : Nat)), some (.int (n : Int)), some (.int (way : Int)), some (.ref d), some (.int (late : Int)), some (.ref L), none, some (.int (x : Int)), none, none]) rfl ?_
          refine ⟨_, _, rfl, ?_⟩
          refine at_name (σ' := [some (.ref p), some (.int (mo : Nat)), some (.int (n : Int)), some (.int (way : Int)), some (.ref d), some (.int (late : Int)), some (.ref L), none, some (.int (x : Int)), some (.int (y : Int)), none]) rfl ?_
          refine ⟨rfl, rfl, ?_⟩
          refine ⟨_, rfl, _, rfl, L, _, (x : Int), _, rfl, rfl, SqL.of hL7, atI_nat (wj x hx), _, rfl, _, rfl, L, _, (y : Int), _, rfl, rfl, SqL.of hL7, atI_nat (wj y hy), (by show 2 ≤ sizeLine; decide), fun b hb => ?_⟩
          have b1 := Same.new (H := H7) (o := .tup [V.str (W.getD x ⟨#[]⟩), V.str (W.getD y ⟨#[]⟩)]) hb
          have b2 : upd H7 b (.tup [V.str (W.getD x ⟨#[]⟩), V.str (W.getD y ⟨#[]⟩)]) b = _ := upd_same
          generalize upd H7 b (.tup [V.str (W.getD x ⟨#[]⟩), V.str (W.getD y ⟨#[]⟩)]) = G1 at b1 b2 ⊢
          refine ⟨_, rfl, _, rfl, _, rfl, _, rfl, (by show 2 ≤ sizeLine; decide), fun t1 ht1 => ?_⟩
          have c1 := Same.new (H := G1) (o := .tup [V.int (x : Int), V.int (y : Int)]) ht1
          have c2 : upd G1 t1 (.tup [V.int (x : Int), V.int (y : Int)]) t1 = _ := upd_same
          generalize upd G1 t1 (.tup [V.int (x : Int), V.int (y : Int)]) = G2 at c1 c2 ⊢
          refine ⟨d, _, rfl, ((tr.mono b1).mono c1).get hx hy c2, L, _, (t x y : Nat), _, rfl, rfl, SqL.of (c1 _ _ (b1 _ _ hL7)), atI_nat (wj _ (fr.lt x y hx hy)), (by show 2 ≤ sizeLine; decide), fun t2 ht2 => ?_⟩
          have d1 := Same.new (H := G2) (o := .tup [V.ref b, V.str (W.getD (t x y) ⟨#[]⟩)]) ht2
          refine kR t2 b _ (fun z o e => d1 _ _ (c1 _ _ (b1 _ _ e))) ?_ (d1 _ _ (c1 _ _ b2))
          show _ = some (HO.tup [V.ref b, V.str (prodW W t (W.getD x ⟨#[]⟩) (W.getD y ⟨#[]⟩))])
          rw [ev]
          exact upd_same
        · intro dn H7 s7 hdn0 hdn
          have em : (is.map fun a : Ix => (keyP (W.getD a.1 ⟨#[]⟩, W.getD a.2 ⟨#[]⟩), valW (prodW W t) (W.getD a.1 ⟨#[]⟩, W.getD a.2 ⟨#[]⟩))) = (is.map fun a : Ix => (W.getD a.1 ⟨#[]⟩, W.getD a.2 ⟨#[]⟩)).map fun p => (keyP p, valW (prodW W t) p) := by rw [List.map_map]; rfl
          rw [em] at hdn
          have tm := (TbG.merge (val := valW (prodW W t)) keyP_inj (is.map fun a : Ix => (W.getD a.1 ⟨#[]⟩, W.getD a.2 ⟨#[]⟩)) TbG.nil).congr (S' := SqW W) fun a => by
            rw [false_or, List.mem_map]
            constructor
            · rintro ⟨i, hi, rfl⟩
              have hs := (e2 i).mpr hi
              exact ⟨getD_mem (by rw [lw']; exact hs.1), getD_mem (by rw [lw']; exact hs.2)⟩
            · rintro ⟨h1, h2⟩
              refine ⟨(W.idxOf a.1, W.idxOf a.2), (e2 _).mp ⟨lw' ▸ List.idxOf_lt_length_of_mem h1, lw' ▸ List.idxOf_lt_length_of_mem h2⟩, ?_⟩
              exact Prod.ext (getD_idxOf h1) (getD_idxOf h2)
          obtain ⟨kv2, ek⟩ : ∃ z, z = mergeT [] ((is.map fun a : Ix => (W.getD a.1 ⟨#[]⟩, W.getD a.2 ⟨#[]⟩)).map fun p => (keyP p, valW (prodW W t) p)) := ⟨_, rfl⟩
          rw [← ek] at hdn tm
          clear ek em
          refine at_name (σ' := [some (.ref p), some (.int (mo : Nat)), some (.int (n : Int)), some (.int (way : Int)), some (.ref d), some (.int (late : Int)), some (.ref L), some (.ref dn), none, none, none]) rfl ?_
          obtain ⟨ps, f1, f2, f3, f4⟩ := sorted_keys tm ndw kw.asc (ascOf_perm W)
          have bt7 : But p H H7 := bt56.same s7
          have hP7 := hP6.mono s7
          have lp : ps.length ≤ 16 := by
            rw [f2]
            have := tm.len (pairsW W) fun p hp => mem_pairsW.mpr hp
            rw [pairsW_len, lw'] at this
            have : n * n ≤ 4 * 4 := Nat.mul_le_mul (by omega) (by omega)
            omega
          have lpw : (pairsW (ascOf W)).length ≤ 1000 := by
            rw [pairsW_len, (ascOf_perm W).length_eq, lw']
            have : n * n ≤ 4 * 4 := Nat.mul_le_mul (by omega) (by omega)
            omega
          show tCB (rDictT K) (tCons (tLc (iList K (tCB DTp.rSortT (tCons (tVar 7) tNil))) (gName 10) tYes (tTup (tCons (tVar 10) (tCons (tDGet (tVar 7) (tVar 10)) tNil))) [10]) tNil) _ H7 Q
          refine rd_list (key2 := keyP) (val2 := valW (prodW W t)) (is := pairsW (ascOf W)) (fun H1 => L2.Same H7 H1) lpw ?_ ?_
          · intro R hR
            refine ⟨_, rfl, dn, kv2, ps, rfl, .inl hdn, f1, by omega, fun qs l h1 h2 h3 hl => ?_⟩
            have s8 := Same.new (H := H7) (o := .lst (qs.map fun q => V.ref q.1)) hl
            refine hR l qs _ (f4 _ h1 h2) upd_same s8 ?_
            intro m q H8 R2 hq s9 kR
            have hqm := h3 q (List.mem_of_getElem? hq)
            have hq8 : H8 q.1 = some (.tup ((keyP q.2).map kV)) := s9 _ _ (s8 _ _ hqm)
            have hq2 : SqW W q.2 := by
              have : q.2 ∈ qs.map (·.2) := List.mem_map.mpr ⟨q, List.mem_of_getElem? hq, rfl⟩
              rw [f4 _ h1 h2, mem_pairsW] at this
              exact ⟨(ascOf_perm W).mem_iff.mp this.1, (ascOf_perm W).mem_iff.mp this.2⟩
            have gt : DGet H8 dn (.ref q.1) (some (valW (prodW W t) q.2)) := by
              have e := DGet.t (k := keyP q.2) (s9 _ _ (s8 _ _ hdn)) hq8
              rw [tm.get hq2] at e
              exact e
            refine at_name (σ' := [some (.ref p), some (.int (mo : Nat)), some (.int (n : Int)), some (.int (way : Int)), some (.ref d), some (.int (late : Int)), some (.ref L), some (.ref dn), none, none, some (.ref q.1)]) rfl ?_
            refine ⟨rfl, _, rfl, _, rfl, _, rfl, dn, _, rfl, gt, (by show 2 ≤ sizeLine; decide), fun t2 ht2 => ?_⟩
            exact kR t2 q.1 _ (Same.new ht2) upd_same (Same.new ht2 _ _ hq8)
          · intro q H8 H9 s8 s9 hq0 hq
            have en : mergeT [] ((pairsW (ascOf W)).map fun a => (keyP a, valW (prodW W t) a)) = tabW (ascOf W) (prodW W t) := by
              rw [mergeT_nd _ _ (by rw [List.nil_append]; exact (tabW_tb (f := prodW W t) kw.asc.nodup).nd)]
              rfl
            rw [en] at hq
            have btE : But p H H8 := bt7.same s8
            exact k q (ascOf W) (prodW W t) H9 (btE.free (hP7.mono s8) hq0) (btE.same s9) (((hP7.mono s8).mono s9).le (by omega)) hq kw
end
end KT
set_option Elab.async false
set_option linter.all false
set_option maxRecDepth 100000
set_option maxHeartbeats 4000000
namespace KT
open PySem L2 PyProof.Rows DTp
section
variable {K : PySem.W.Frag}
theorem mergeT_snoc : ∀ (xs kvs : List (List Key × V)) (p : List Key × V), mergeT kvs (xs ++ [p]) = putK (mergeT kvs xs) p.1 p.2
  | [], _, _ => rfl
  | x :: xs, kvs, p => mergeT_snoc xs _ p
/-- {key: value for .. in told}, the keys tuples -/
theorem dc_keys {ι : Type} {key key2 : ι → List Key} {val val2 : ι → V} {te0 tk tv : TE} {tg iter : Expr} {ifs : List Expr} {g : TG} {vs : List Nat} {σ : L2.St} {H : Hp} {Q : VK} {d : Addr} {kvs : List (List Key × V)} {is : List ι}
    (hi : ∀ od (R : VK), R (.ref d) (upd H d (.frz od (.dT kvs))) → te0 σ (upd H d (.frz od (.dT kvs))) R) (hd : H d = some (.dT kvs))
    (e1 : kvs = is.map fun a => (key a, val a)) (few : is.length ≤ 1000)
    (step : ∀ a q od H1 (R : V → V → Hp → Prop) (Cn : L2.St → Hp → Prop), (∀ σ2 H2, (tk σ2 H2 fun y H3 => tv σ2 H3 fun z H4 => R y z H4) → Cn σ2 H2) → a ∈ is → L2.Same (upd H d (.frz od (.dT kvs))) H1 → H1 q = some (.tup ((key a).map kV)) → (∀ b H3, L2.Same H1 H3 → H3 b = some (.tup ((key2 a).map kV)) → R (.ref b) (val2 a) H3) → g (.ref q) (wipe σ vs) H1 fun σ2 H2 => wipe σ2 vs = wipe σ vs ∧ Cn σ2 H2)
    (k : ∀ q H', L2.Same H H' → H q = none → H' q = some (.dT (mergeT [] (is.map fun a => (key2 a, val2 a)))) → Q (.ref q) H') :
    tLockE (GC.tCo (fun _ => .dT []) ⟨tg, iter, ifs, iKeys te0, g, tYes, vs⟩ [] (GC.emT tk tv)) σ H Q := by
  have li : is.length = kvs.length := by rw [e1, List.length_map]
  refine ⟨d, .dT kvs, hd, trivial, fun od => ?_⟩
  refine hi od _ ⟨d, od, rfl, .inr ⟨kvs, upd_same, fun D hD => ?_⟩⟩
  have nDd : D ≠ d := fun e => by rw [e, upd_same] at hD; cases hD
  have hD0 : H D = none := by rw [upd_ne nDd] at hD; exact hD
  refine GC.lp_it walk_keysT (fun n H' => L2.Same (upd H d (.frz od (.dT kvs))) H' ∧ H' D = some (.dT (mergeT [] ((is.take n).map fun a => (key2 a, val2 a))))) ?_ ?_ ?_ ?_
  · exact ⟨Same.new hD, upd_same⟩
  · rintro i H1 _ ⟨s1, _⟩
    exact s1 _ _ upd_same
  · rintro n x H0 H1 hn ⟨s1, hD1⟩ ⟨rfl, kk, v, q, hk, rfl, hq⟩
    have hn' : n < is.length := by omega
    have ea : is[n]? = some is[n] := List.getElem?_eq_getElem hn'
    have ek : kvs[n]? = some (key is[n], val is[n]) := by
      have e3 := congrArg (fun l : List (List Key × V) => l[n]?) e1
      simp only [List.getElem?_map, ea] at e3
      exact e3
    rw [hk] at ek
    have ek := Option.some.inj ek
    obtain ⟨rfl, rfl⟩ : kk = key is[n] ∧ v = val is[n] := ⟨congrArg Prod.fst ek, congrArg Prod.snd ek⟩
    refine step is[n] q od H1 (fun y z H2 => ∃ (kvs2 : List (List Key × V)) (k : List Key) (b : Addr), y = .ref b ∧ H2 b = some (.tup (k.map kV)) ∧ H2 D = some (.dT kvs2) ∧ kvs2.length < sizeLine ∧ (L2.Same (upd H d (.frz od (.dT kvs))) (upd H2 D (.dT (putK kvs2 k z))) ∧ (upd H2 D (.dT (putK kvs2 k z))) D = some (.dT (mergeT [] ((is.take (n + 1)).map fun a => (key2 a, val2 a)))))) _ (fun σ2 H2 hh => hh) (List.getElem_mem hn') s1 hq fun b H3 s3 hb => ?_
    refine ⟨_, key2 is[n], b, rfl, hb, s3 _ _ hD1, ?_, fun c o e => ?_, ?_⟩
    · have := length_mergeT ((is.take n).map fun a => (key2 a, val2 a)) []
      rw [List.length_map, List.length_take, List.length_nil] at this
      exact small1000 (by omega)
    · rw [upd_ne (ne_of_none e hD)]
      exact s3 _ _ (s1 _ _ e)
    · rw [upd_same, take_next' ea, List.map_append]
      exact congrArg (fun z => some (HO.dT z)) (mergeT_snoc ((is.take n).map fun a => (key2 a, val2 a)) [] (key2 is[n], val2 is[n])).symm
  · rintro H1 ⟨s1, hD1⟩
    rw [← li, List.take_length] at hD1
    have hdl : H1 d = some (.frz od (.dT kvs)) := s1 _ _ upd_same
    refine ⟨hdl, k D _ (fun b o e => ?_) hD0 ?_⟩
    · by_cases hb : b = d
      · rw [hb] at e ⊢
        rw [hd] at e
        rw [upd_same]; exact e
      · rw [upd_ne hb]
        exact s1 _ _ ((upd_ne hb).trans e)
    · rw [upd_ne nDd]; exact hD1
/-- {key: value for .. in list}, the list's things the tuples at qs, the keys tuples -/
theorem dc_list {ι : Type} {key2 : ι → List Key} {val2 : ι → V} {tl tk tv : TE} {tg iter : Expr} {ifs : List Expr} {g : TG} {vs : List Nat} {σ : L2.St} {H : Hp} {Q : VK} {is : List ι} (Pd : Hp → Prop) (few : is.length ≤ 1000)
    (hl : ∀ R : VK, (∀ l (qs : List (Addr × ι)) H1, qs.map (·.2) = is → H1 l = some (.lst (qs.map fun q => V.ref q.1)) → Pd H1 →
      (∀ (n : Nat) q H2 (R2 : V → V → Hp → Prop) (Cn : L2.St → Hp → Prop), (∀ σ2 H3, (tk σ2 H3 fun y H4 => tv σ2 H4 fun z H5 => R2 y z H5) → Cn σ2 H3) → qs[n]? = some q → L2.Same H1 H2 → (∀ b H3, L2.Same H2 H3 → H3 b = some (.tup ((key2 q.2).map kV)) → R2 (.ref b) (val2 q.2) H3) → g (.ref q.1) (wipe σ vs) H2 fun σ2 H3 => wipe σ2 vs = wipe σ vs ∧ Cn σ2 H3) → R (.ref l) H1) → tl σ H R)
    (k : ∀ q H1 H', Pd H1 → L2.Same H1 H' → H1 q = none → H' q = some (.dT (mergeT [] (is.map fun a => (key2 a, val2 a)))) → Q (.ref q) H') :
    GC.tCo (fun _ => .dT []) ⟨tg, iter, ifs, iList K tl, g, tYes, vs⟩ [] (GC.emT tk tv) σ H Q := by
  refine hl _ fun l qs H1 eqs h1 s1 step => ?_
  have lq : qs.length = is.length := by rw [← eqs, List.length_map]
  refine ⟨l, rfl, ⟨_, SqL.of h1⟩, fun D hD => ?_⟩
  refine GC.lp_it (walk_list (K := K) (a := l) (xs := qs.map fun q => V.ref q.1)) (fun n H' => L2.Same H1 H' ∧ H' D = some (.dT (mergeT [] ((is.take n).map fun a => (key2 a, val2 a))))) ?_ ?_ ?_ ?_
  · exact ⟨Same.new hD, upd_same⟩
  · rintro i H2 _ ⟨s2, _⟩
    exact SqL.of (s2 _ _ h1)
  · rintro n x H0 H2 hn ⟨s2, hD2⟩ ⟨rfl, hx⟩
    rw [List.length_map] at hn
    rw [List.getElem?_map] at hx
    cases e : qs[n]? with
    | none => rw [e] at hx; cases hx
    | some q =>
      rw [e] at hx
      obtain rfl : V.ref q.1 = x := Option.some.inj hx
      have ea : is[n]? = some q.2 := by rw [← eqs, List.getElem?_map, e]; rfl
      refine step n q H2 (fun y z H3 => ∃ (kvs2 : List (List Key × V)) (k : List Key) (b : Addr), y = .ref b ∧ H3 b = some (.tup (k.map kV)) ∧ H3 D = some (.dT kvs2) ∧ kvs2.length < sizeLine ∧ (L2.Same H1 (upd H3 D (.dT (putK kvs2 k z))) ∧ (upd H3 D (.dT (putK kvs2 k z))) D = some (.dT (mergeT [] ((is.take (n + 1)).map fun a => (key2 a, val2 a)))))) _ (fun σ2 H3 hh => hh) e s2 fun b H3 s3 hb => ?_
      refine ⟨_, key2 q.2, b, rfl, hb, s3 _ _ hD2, ?_, fun c o e => ?_, ?_⟩
      · have := length_mergeT ((is.take n).map fun a => (key2 a, val2 a)) []
        rw [List.length_map, List.length_take, List.length_nil] at this
        exact small1000 (by omega)
      · rw [upd_ne (ne_of_none e hD)]
        exact s3 _ _ (s2 _ _ e)
      · rw [upd_same, take_next' ea, List.map_append]
        exact congrArg (fun z => some (HO.dT z)) (mergeT_snoc ((is.take n).map fun a => (key2 a, val2 a)) [] (key2 q.2, val2 q.2)).symm
  · rintro H2 ⟨s2, hD2⟩
    rw [List.length_map, lq, List.take_length] at hD2
    exact k D H1 H2 s1 s2 hD hD2
end
end KT
set_option Elab.async false
set_option linter.all false
set_option maxRecDepth 100000
set_option maxHeartbeats 4000000
namespace KT
open PySem L2 PyProof.Rows DTp
/-- built-ins that the program asks -/
structure Blp (mg : Str → Option Value) : Prop where
  isi : mg "isinstance" = none
  all : mg "all" = none
  sorted : mg "sorted" = none
  str : mg "str" = none
  bool : mg "bool" = none
  tuple : mg "tuple" = none
  list : mg "list" = none
  dict : mg "dict" = none
  letters : ∃ t, mg "LETTERS" = some (.str "abcdefghijklmnopqrstuvwxyz" t)
  longest : ∃ t, mg "LONGEST_WORD" = some (.int 8 t)
theorem boot_isi : bootBuiltins "isinstance" = some (.builtin "isinstance") := by decide +kernel
section
variable {J : It} {n : Nat} {G : Hp → Prop} {Y : Nat → Hp → V → Hp → Prop}
/-- a list of tests, all of them true -/
theorem lc_true (W : Walk J n G Y) {g : TG} {te : TE} {vs : List Nat} {σ : L2.St} {H1 : Hp} {D : Addr} {Qd : Hp → Prop} (few : n ≤ 1000) (hD : H1 D = none) (stay : ∀ H', L2.Same H1 H' → G H')
    (step : ∀ i x H H' (R : VK), i < n → L2.Same H1 H → Y i H x H' → (∀ H3, L2.Same H H3 → R (.bl true) H3) → g x (wipe σ vs) H' fun σ2 H2 => wipe σ2 vs = wipe σ vs ∧ te σ2 H2 R)
    (done : ∀ H', L2.Same H1 H' → H' D = some (.lst ((List.replicate n true).map V.bl)) → Qd H') :
    ∃ W : Nat → Nat → Hp → Prop, (∃ m, W 0 m (upd H1 D (.lst []))) ∧ ∀ i m H, W i m H →
      (J.stop i H ∧ Qd H) ∨ (J.go i H ∧ ∃ Nx : Hp → Prop, (∀ H', Nx H' → ∃ m', m' < m ∧ W (i + 1) m' H') ∧ ∀ x H', J.yld i H x H' → g x (wipe σ vs) H' fun σ2 H2 => wipe σ2 vs = wipe σ vs ∧ tYes σ2 H2 fun b H3 =>
        if b = true then te σ2 H3 fun y H4 => ∃ acc, H4 D = some (.lst acc) ∧ acc.length < sizeLine ∧ Nx (upd H4 D (.lst (acc ++ [y]))) else Nx H3) := by
  refine lc_it W (tt := tYes) (fun i H' => L2.Same H1 H' ∧ H' D = some (.lst ((List.replicate i true).map V.bl))) ⟨Same.new hD, upd_same⟩ (fun i H' _ h => stay H' h.1) (fun i x H H' hi h y => ?_) (fun H' h => done H' h.1 h.2)
  obtain ⟨s1, hDp⟩ := h
  refine step i x H H' _ hi s1 y fun H3 s2 => ⟨_, s2 _ _ hDp, ?_, fun c o e => ?_, ?_⟩
  · rw [List.length_map, List.length_replicate]
    exact small1000 (by omega)
  · rw [upd_ne (ne_of_none e hD)]
    exact s2 _ _ (s1 _ _ e)
  · rw [upd_same, List.replicate_succ', List.map_append]
    rfl
end
theorem all_true (n : Nat) : (List.replicate n true).all id = true := by
  induction n with
  | zero => rfl
  | succ n ih => rw [List.replicate_succ, List.all_cons, ih]; rfl
theorem Wd.abc {x : Str} (h : Wd x) {c : Nat} (hc : c ∈ x.cps.toList) : c ∈ ("abcdefghijklmnopqrstuvwxyz" : Str).cps.toList := by
  have e : ("abcdefghijklmnopqrstuvwxyz" : Str).cps.toList = (List.range 26).map (· + 97) := by decide +kernel
  obtain ⟨h1, h2⟩ := h.2.2 c hc
  rw [e]
  exact List.mem_map.mpr ⟨c - 97, List.mem_range.mpr (by omega), by omega⟩
section
variable {P : Program} {w : World} {K : PySem.W.Frag} {mg : Str → Option Value} {base : Heap}
def spIsWord : Sp := fun vs H Q _ => ∃ x : Str, vs = [.str x] ∧ Wd x ∧ ∀ H', L2.Same H H' → Q (.bl true) H'
abbrev nIsWord : List Str := ["value", "letter"]
theorem scIsWord : FnScope nIsWord ["value"] (defScope pIsWord) := ⟨rfl, rfl, rfl, by decide +kernel, rfl, by decide +kernel, by decide +kernel⟩
theorem ok_isWord {f : Addr} {fd : FuncData} (F : Fun K "is_word" "is_word" pIsWord f fd) (T : Blt mg) (Z : Blp mg) : FnOk P w K mg base CX0 1 f fd ["value"] spIsWord := by
  refine F.ok scIsWord (fun vs H Q E h => ?_) (fun cdv A outer s H vs Q E hr h => ?_)
  · obtain ⟨x, rfl, _⟩ := h
    rfl
  · obtain ⟨x, rfl, wx, k⟩ := h
    have nd := scIsWord.nd
    obtain ⟨tl, ml⟩ := Z.letters
    obtain ⟨tn, mn⟩ := Z.longest
    refine ⟨_, pss_cons (ps_if (pt_cut <| PW.pt (pw_or (pt_not (pt_val (pe_callB call_isi (by rfl) Z.isi boot_isi (pa_cons (pv 0) (pa_cons (pe_bltn (v := .ty "str") (by rfl) Z.str (by decide +kernel) rfl) pa_nil)))))
          (pw_or1 (pt_not (pt_chain op_le op_le pe_int (pe_callB call_len (by rfl) T.len PySem.boot_len (pa_cons (pv 0) pa_nil)) (pe_glob (v := .int 8) rfl mn ⟨_, rfl⟩)))))) (pss_one (ps_ret pe_bl)) pss_nil)
      (pss_one (ps_ret (pe_callB (cr_all rfl) (by rfl) Z.all (by decide +kernel) (pa_cons
        (pe_lc (own := [("letter", 1)]) (g := gName 1) (tt := tYes) (te := tOp (fun x y H Q => ∃ (c : Nat) (z : Str), x = .str ⟨#[c]⟩ ∧ y = .str z ∧ Q (.bl (decide (c ∈ z.cps.toList))) H) (tVar 1) (tC (.str "abcdefghijklmnopqrstuvwxyz"))) rfl nd (pi_str (pv 0)) (blkOk_by (own := [("letter", 1)]) (N := nIsWord) (sc := defScope pIsWord) (by decide +kernel))
          (fun _ _ _ _ _ => pg_name (i := 1) nd rfl (Or.inl rfl)) (fun _ _ _ _ _ => pts_nil) (fun _ _ _ _ _ => pe_cmpR op_in_sign (pv 1) (pe_glob rfl ml ⟨_, rfl⟩) (by rfl))) pa_nil)))), ?_⟩
    have w1 := wx.1
    have w2 := wx.2.1
    refine ⟨fun b H' => b = false ∧ H' = H, ?_, ?_⟩
    · refine ⟨_, rfl, _, _, _, _, true, rfl, .ty _, .base (.str _), kit_ty (by decide +kernel), _, rfl, ?_⟩
      refine iteF ?_
      refine ⟨_, rfl, _, x.length, rfl, ⟨by rw [sizeLine_eq]; omega, rfl⟩, _, _, rfl, rfl, _, rfl, ?_⟩
      rw [decide_eq_true (show (1 : Int) ≤ (x.length : Int) by omega)]
      refine iteT ⟨_, _, rfl, rfl, _, rfl, ?_⟩
      rw [decide_eq_true (show (x.length : Int) ≤ 8 by omega)]
      exact ⟨rfl, rfl⟩
    · rintro b H' ⟨rfl, rfl⟩
      refine iteF ?_
      refine ⟨_, rfl, _, rfl, fun D hD => ?_⟩
      refine lc_true walk_str (by show x.length ≤ 1000; omega) hD (fun _ _ => trivial) ?_ ?_
      · rintro i v H1 H2 R hi s1 ⟨rfl, c, hc, rfl⟩ kR
        have hm : c ∈ x.cps.toList := by
          rw [← Array.getElem?_toList] at hc
          exact List.mem_of_getElem? hc
        refine ⟨rfl, _, rfl, c, _, rfl, rfl, ?_⟩
        rw [decide_eq_true (wx.abc hm)]
        exact kR _ fun _ _ e => e
      · intro H1 s1 hD1
        refine ⟨D, _, rfl, SqL.of hD1, ?_⟩
        rw [all_true]
        exact k _ s1
end
end KT
set_option Elab.async false
set_option linter.all false
set_option maxRecDepth 100000
set_option maxHeartbeats 4000000
namespace KT
open PySem L2 PyProof.Rows DTp
section
variable {P : Program} {w : World} {K : PySem.W.Frag} {mg : Str → Option Value} {base : Heap}
def spIsPair : Sp := fun vs H Q _ => ∃ (a : Addr) (x y : Str), vs = [.ref a] ∧ H a = some (.tup [.str x, .str y]) ∧ Wd x ∧ Wd y ∧ ∀ H', L2.Same H H' → Q (.bl true) H'
theorem scIsPair : FnScope ["value"] ["value"] (defScope pIsPair) := ⟨rfl, rfl, rfl, by decide +kernel, rfl, by decide +kernel, by decide +kernel⟩
theorem ok_isPair {f : Addr} {fd : FuncData} (F : Fun K "_is_pair" "_is_pair" pIsPair f fd) (T : Blt mg) (Z : Blp mg) (C : Cee P w K mg base 1 "is_word" ["value"] spIsWord) : FnOk P w K mg base CX0 2 f fd ["value"] spIsPair := by
  refine F.ok scIsPair (fun vs H Q E h => ?_) (fun cdv A outer s H vs Q E hr h => ?_)
  · obtain ⟨a, x, y, rfl, _⟩ := h
    rfl
  · obtain ⟨a, x, y, rfl, ha, wx, wy, k⟩ := h
    refine ⟨_, pss_one (ps_ret (pe_and (pe_callB call_isi (by rfl) Z.isi boot_isi (pa_cons (pv 0) (pa_cons (pe_bltn (v := .ty "tuple") (by rfl) Z.tuple (by decide +kernel) rfl) pa_nil)))
      (pe_and (pe_cmpR op_eq (pe_callB call_len_seq (by rfl) T.len PySem.boot_len (pa_cons (pv 0) pa_nil)) pe_int (nomark _))
      (pe_and (pe_c C hr rfl (pa_cons (pe_ix ix_tup (pv 0) pe_int (fun _ _ => rfl)) pa_nil)) (pe_one (pe_c C hr rfl (pa_cons (pe_ix ix_tup (pv 0) pe_int (fun _ _ => rfl)) pa_nil))))))), ?_⟩
    refine ⟨_, rfl, _, _, _, _, true, rfl, .ty _, .base (.tup ha), kit_ty (by decide +kernel), _, rfl, iteT ?_⟩
    refine ⟨_, rfl, a, _, rfl, .inr (SqT.of ha), rfl, _, rfl, iteT ?_⟩
    refine ⟨_, rfl, a, _, _, _, rfl, rfl, SqT.of ha, atI_nat (j := 0) rfl, x, rfl, wx, fun H1 s1 => ⟨_, rfl, iteT ?_⟩⟩
    exact ⟨_, rfl, a, _, _, _, rfl, rfl, SqT.of (s1 _ _ ha), atI_nat (j := 1) rfl, y, rfl, wy, fun H2 s2 => k _ fun b o e => s2 _ _ (s1 _ _ e)⟩
end
end KT
set_option Elab.async false
set_option linter.all false
set_option maxRecDepth 100000
set_option maxHeartbeats 4000000
namespace KT
open PySem L2 PyProof.Rows DTp
/-- a table of words that may be read -/
def TabW (H : Hp) (a : Addr) (ws : List Str) (f : Str → Str → Str) : Prop := ∃ kvs, Rd H a (.dT kvs) ∧ TbG (SqW ws) keyP (valW f) kvs
theorem TabW.mono {H H' : Hp} {a : Addr} {ws : List Str} {f : Str → Str → Str} (s : L2.Same H H') (h : TabW H a ws f) : TabW H' a ws f := by
  obtain ⟨kvs, h1, h2⟩ := h
  rcases h1 with e | ⟨od, e⟩
  · exact ⟨kvs, .inl (s _ _ e), h2⟩
  · exact ⟨kvs, .inr ⟨od, s _ _ e⟩, h2⟩
theorem TabW.get {H : Hp} {a b : Addr} {ws : List Str} {f : Str → Str → Str} {x y : Str} (h : TabW H a ws f) (hx : x ∈ ws) (hy : y ∈ ws) (hb : H b = some (.tup [.str x, .str y])) : DGet H a (.ref b) (some (.str (f x y))) := by
  obtain ⟨kvs, h1, h2⟩ := h
  have e : DGet H a (.ref b) (valV kvs (keyP (x, y))) := .inr ⟨kvs, keyP (x, y), b, h1, rfl, hb, rfl⟩
  rw [h2.get (i := (x, y)) ⟨hx, hy⟩] at e
  exact e
theorem tbW_len {ws : List Str} {f : Str → Str → Str} {kvs : List (List Key × V)} (h : TbG (SqW ws) keyP (valW f) kvs) (n : ws.Nodup) : kvs.length = ws.length * ws.length := by
  obtain ⟨is, e1, ndi, e2⟩ := h.idxs keyP_inj
  have pm : is.Perm (pairsW ws) := (List.perm_ext_iff_of_nodup ndi (pairsW_nodup n)).mpr fun p => by rw [mem_pairsW, ← e2]
  rw [e1, List.length_map, pm.length_eq, pairsW_len]
theorem str_get {ws : List Str} {i : Nat} {x : V} (h : (ws.map V.str)[i]? = some x) : ∃ y, ws[i]? = some y ∧ x = .str y := by
  rw [List.getElem?_map] at h
  cases e : ws[i]? with
  | none => rw [e] at h; cases h
  | some y => rw [e] at h; exact ⟨y, rfl, (Option.some.inj h).symm⟩
section
variable {P : Program} {w : World} {K : PySem.W.Frag} {mg : Str → Option Value} {base : Heap}
def spIsFull : Sp := fun vs H Q _ => ∃ (a l : Addr) (kvs : List (List Key × V)) (ws : List Str) (f : Str → Str → Str), vs = [.ref a, .ref l] ∧ H a = some (.dT kvs) ∧ TbG (SqW ws) keyP (valW f) kvs ∧ KW ws f ∧ H l = some (.lst (ws.map V.str)) ∧ ∀ H', L2.Same H H' → Q (.bl true) H'
abbrev nFull : List Str := ["table", "words", "one", "other"]
theorem scFull : FnScope nFull ["table", "words"] (defScope pIsFull) := ⟨rfl, rfl, rfl, by decide +kernel, rfl, by decide +kernel, by decide +kernel⟩
theorem ok_isFull {f : Addr} {fd : FuncData} (F : Fun K "_is_full" "_is_full" pIsFull f fd) (T : Blt mg) (Z : Blp mg) : FnOk P w K mg base CX0 1 f fd ["table", "words"] spIsFull := by
  refine F.ok scFull (fun vs H Q E h => ?_) (fun cdv A outer s H vs Q E hr h => ?_)
  · obtain ⟨a, l, kvs, ws, f, rfl, _⟩ := h
    rfl
  · obtain ⟨a, l, kvs, ws, f, rfl, ha, tb, kw, hl, k⟩ := h
    have nd := scFull.nd
    refine ⟨_, pss_cons (ps_if (pt_cmpR op_ne (pe_callB call_len_dT (by rfl) T.len PySem.boot_len (pa_cons (pv 0) pa_nil)) (pe_op op_mul (pe_callB call_len_seq (by rfl) T.len PySem.boot_len (pa_cons (pv 1) pa_nil)) (pe_callB call_len_seq (by rfl) T.len PySem.boot_len (pa_cons (pv 1) pa_nil))) (nomark _)) (pss_one (ps_ret pe_bl)) pss_nil)
      (pss_one (ps_ret (pe_callB (cr_all rfl) (by rfl) Z.all (by decide +kernel) (pa_cons
        (GC.pe_lcs (own := [("one", 2), ("other", 3)]) (g := gName 2) (tt := tYes) (te := tAndV (tDIn (tTup (tCons (tVar 2) (tCons (tVar 3) tNil))) (tVar 0)) (tOp (rIn K false) (tDGet (tVar 0) (tTup (tCons (tVar 2) (tCons (tVar 3) tNil)))) (tVar 1))) rfl nd (pi_list (pv 1))
          (blkOk_by (own := [("one", 2), ("other", 3)]) (N := nFull) (sc := defScope pIsFull) (by decide +kernel)) (fun _ _ _ _ _ => pg_name (i := 2) nd rfl (Or.inl rfl)) (fun _ _ _ _ _ => pts_nil)
          (GC.cl1 (wi := iList K (tVar 1)) (g := gName 3) (tt := tYes) [3] (fun _ _ _ _ _ => pi_list (pv 1)) (fun _ _ _ _ _ => pg_name (i := 3) nd rfl (Or.inl rfl)) (fun _ _ _ _ _ => pts_nil) GC.cl0)
          ⟨(by show ∀ i ∈ [3], i ∈ [2, 3]; decide), trivial⟩
          (fun _ _ _ _ _ => pe_and (pe_cmp (pc_din (hu_of hr) (pe_tup (pa_cons (pv 2) (pa_cons (pv 3) pa_nil))) (pv 0)) (by rfl)) (pe_one (pe_cmpR op_in_seq (pe_dget (hu_of hr) (pv 0) (pe_tup (pa_cons (pv 2) (pa_cons (pv 3) pa_nil))) (fun _ _ => rfl)) (pv 1) (by rfl))))) pa_nil)))), ?_⟩
    have k4 := kw.few
    have n16 : ws.length * ws.length ≤ 16 := Nat.le_trans (Nat.mul_le_mul k4 k4) (by decide)
    refine ⟨_, rfl, a, kvs, rfl, ha, _, rfl, l, _, rfl, .inl (SqL.of hl), _, rfl, l, _, rfl, .inl (SqL.of hl), ?_⟩
    rw [List.length_map]
    refine ⟨_, _, rfl, rfl, .inl ⟨by omega, by omega⟩, rfl, _, rfl, ?_⟩
    rw [tbW_len tb kw.asc.nodup, decide_eq_true (show V.int ((ws.length * ws.length : Nat) : Int) = V.int ((ws.length : Int) * (ws.length : Int)) by rw [Int.natCast_mul])]
    refine iteF ?_
    refine ⟨_, rfl, l, rfl, ⟨_, SqL.of hl⟩, fun D hD => ?_⟩
    have tbH : TabW H a ws f := ⟨kvs, .inl ha, tb⟩
    refine GC.lp_it (walk_list (K := K) (a := l) (xs := ws.map V.str)) (fun i H' => L2.Same H H' ∧ ∃ m, m ≤ i * ws.length ∧ H' D = some (.lst ((List.replicate m true).map V.bl))) ?_ ?_ ?_ ?_
    · exact ⟨Same.new hD, 0, Nat.zero_le _, upd_same⟩
    · rintro i H1 _ ⟨s1, _⟩
      exact SqL.of (s1 _ _ hl)
    · rintro i x H0 H1 hi ⟨s1, m, hm, hD1⟩ ⟨rfl, hx⟩
      obtain ⟨x, ex, rfl⟩ := str_get hx
      have mx : x ∈ ws := List.mem_of_getElem? ex
      rw [List.length_map] at hi
      dsimp only
      refine at_name (σ' := [some (.ref a), some (.ref l), some (.str x), none]) rfl ?_
      refine ⟨rfl, yes_if ?_⟩
      refine ⟨_, rfl, l, rfl, ⟨_, SqL.of (s1 _ _ hl)⟩, ?_⟩
      refine GC.lp_it (walk_list (K := K) (a := l) (xs := ws.map V.str)) (fun j H' => L2.Same H H' ∧ ∃ m, m ≤ i * ws.length + j ∧ H' D = some (.lst ((List.replicate m true).map V.bl))) ?_ ?_ ?_ ?_
      · exact ⟨s1, m, by omega, hD1⟩
      · rintro j H2 _ ⟨s2, _⟩
        exact SqL.of (s2 _ _ hl)
      · rintro j y H2' H2 hj ⟨s2, m, hm, hD2⟩ ⟨rfl, hy⟩
        obtain ⟨y, ey, rfl⟩ := str_get hy
        have my : y ∈ ws := List.mem_of_getElem? ey
        rw [List.length_map] at hj
        dsimp only
        refine at_name (σ' := [some (.ref a), some (.ref l), some (.str x), some (.str y)]) rfl ?_
        refine ⟨rfl, yes_if ?_⟩
        refine ⟨_, rfl, _, rfl, (by show 2 ≤ sizeLine; decide), fun t1 ht1 => ?_⟩
        have a1 := Same.new (H := H2) (o := .tup [.str x, .str y]) ht1
        have a2 : upd H2 t1 (.tup [.str x, .str y]) t1 = _ := upd_same
        generalize upd H2 t1 (.tup [.str x, .str y]) = G1 at a1 a2 ⊢
        refine ⟨_, rfl, a, _, rfl, ((tbH.mono s2).mono a1).get mx my a2, _, rfl, iteT ?_⟩
        refine ⟨_, rfl, _, rfl, _, rfl, (by show 2 ≤ sizeLine; decide), fun t2 ht2 => ?_⟩
        have b1 := Same.new (H := G1) (o := .tup [.str x, .str y]) ht2
        have b2 : upd G1 t2 (.tup [.str x, .str y]) t2 = _ := upd_same
        generalize upd G1 t2 (.tup [.str x, .str y]) = G2 at b1 b2 ⊢
        have al : ∀ c o, H2 c = some o → G2 c = some o := fun c o e => b1 _ _ (a1 _ _ e)
        refine ⟨a, _, rfl, (((tbH.mono s2).mono a1).mono b1).get mx my b2, _, rfl, l, _, rfl, .inl (SqL.of (al _ _ (s2 _ _ hl))), rfl, flat_strs ws, ?_⟩
        rw [if_neg Bool.false_ne_true, inV_strs, decide_eq_true (kw.cl x y mx my)]
        refine ⟨_, al _ _ hD2, ?_, fun c o e => ?_, m + 1, by omega, ?_⟩
        · rw [List.length_map, List.length_replicate]
          have : i * ws.length ≤ ws.length * ws.length := Nat.mul_le_mul_right _ (by omega)
          exact small1000 (by omega)
        · rw [upd_ne (ne_of_none e hD)]
          exact al _ _ (s2 _ _ e)
        · rw [upd_same, List.replicate_succ', List.map_append]
          rfl
      · rintro H2 ⟨s2, m, hm, hD2⟩
        rw [List.length_map] at hm
        exact ⟨s2, m, by rw [Nat.succ_mul]; exact hm, hD2⟩
    · rintro H1 ⟨s1, m, hm, hD1⟩
      refine ⟨D, _, rfl, SqL.of hD1, ?_⟩
      rw [all_true]
      exact k _ s1
end
end KT
set_option Elab.async false
set_option linter.all false
set_option maxRecDepth 100000
set_option maxHeartbeats 4000000
namespace KT
open PySem L2 PyProof.Rows DTp
section
variable {P : Program} {w : World} {K : PySem.W.Frag} {mg : Str → Option Value} {base : Heap}
abbrev nFree : List Str := ["table", "words", "first", "second", "third"]
abbrev tGet2 (d : TE) (x y : TE) : TE := tDGet d (tTup (tCons x (tCons y tNil)))
theorem scFree : FnScope nFree ["table", "words"] (defScope pIsFree) := ⟨rfl, rfl, rfl, by decide +kernel, rfl, by decide +kernel, by decide +kernel⟩
theorem ok_isFree {f : Addr} {fd : FuncData} (F : Fun K "_is_free_of_brackets" "_is_free_of_brackets" pIsFree f fd) (T : Blt mg) (Z : Blp mg) : FnOk P w K mg base CX0 1 f fd ["table", "words"] spIsFull := by
  refine F.ok scFree (fun vs H Q E h => ?_) (fun cdv A outer s H vs Q E hr h => ?_)
  · obtain ⟨a, l, kvs, ws, f, rfl, _⟩ := h
    rfl
  · obtain ⟨a, l, kvs, ws, f, rfl, ha, tb, kw, hl, k⟩ := h
    have nd := scFree.nd
    refine ⟨_, pss_one (ps_ret (pe_callB (cr_all rfl) (by rfl) Z.all (by decide +kernel) (pa_cons
        (GC.pe_lcs (own := [("first", 2), ("second", 3), ("third", 4)]) (g := gName 2) (tt := tYes) (te := tOp rEq (tGet2 (tVar 0) (tGet2 (tVar 0) (tVar 2) (tVar 3)) (tVar 4)) (tGet2 (tVar 0) (tVar 2) (tGet2 (tVar 0) (tVar 3) (tVar 4)))) rfl nd (pi_list (pv 1))
          (blkOk_by (own := [("first", 2), ("second", 3), ("third", 4)]) (N := nFree) (sc := defScope pIsFree) (by decide +kernel)) (fun _ _ _ _ _ => pg_name (i := 2) nd rfl (Or.inl rfl)) (fun _ _ _ _ _ => pts_nil)
          (GC.cl1 (wi := iList K (tVar 1)) (g := gName 3) (tt := tYes) [3, 4] (fun _ _ _ _ _ => pi_list (pv 1)) (fun _ _ _ _ _ => pg_name (i := 3) nd rfl (Or.inl rfl)) (fun _ _ _ _ _ => pts_nil)
            (GC.cl1 (wi := iList K (tVar 1)) (g := gName 4) (tt := tYes) [4] (fun _ _ _ _ _ => pi_list (pv 1)) (fun _ _ _ _ _ => pg_name (i := 4) nd rfl (Or.inl rfl)) (fun _ _ _ _ _ => pts_nil) GC.cl0))
          ⟨(by show ∀ i ∈ [3, 4], i ∈ [2, 3, 4]; decide), (by show ∀ i ∈ [4], i ∈ [3, 4]; decide), trivial⟩
          (fun _ _ _ _ _ => pe_cmpR op_eq (pe_dget (hu_of hr) (pv 0) (pe_tup (pa_cons (pe_dget (hu_of hr) (pv 0) (pe_tup (pa_cons (pv 2) (pa_cons (pv 3) pa_nil))) (fun _ _ => rfl)) (pa_cons (pv 4) pa_nil))) (fun _ _ => rfl))
            (pe_dget (hu_of hr) (pv 0) (pe_tup (pa_cons (pv 2) (pa_cons (pe_dget (hu_of hr) (pv 0) (pe_tup (pa_cons (pv 3) (pa_cons (pv 4) pa_nil))) (fun _ _ => rfl)) pa_nil))) (fun _ _ => rfl)) (nomark _))) pa_nil))), ?_⟩
    have k4 := kw.few
    refine ⟨_, rfl, l, rfl, ⟨_, SqL.of hl⟩, fun D hD => ?_⟩
    have tbH : TabW H a ws f := ⟨kvs, .inl ha, tb⟩
    refine GC.lp_it (walk_list (K := K) (a := l) (xs := ws.map V.str)) (fun i H' => L2.Same H H' ∧ ∃ m, m ≤ i * 16 ∧ H' D = some (.lst ((List.replicate m true).map V.bl))) ?_ ?_ ?_ ?_
    · exact ⟨Same.new hD, 0, Nat.zero_le _, upd_same⟩
    · rintro i H1 _ ⟨s1, _⟩
      exact SqL.of (s1 _ _ hl)
    · rintro i x H0 H1 hi ⟨s1, m, hm, hD1⟩ ⟨rfl, hx⟩
      obtain ⟨x, ex, rfl⟩ := str_get hx
      have mx : x ∈ ws := List.mem_of_getElem? ex
      rw [List.length_map] at hi
      dsimp only
      refine at_name (σ' := [some (.ref a), some (.ref l), some (.str x), none, none]) rfl ?_
      refine ⟨rfl, yes_if ?_⟩
      refine ⟨_, rfl, l, rfl, ⟨_, SqL.of (s1 _ _ hl)⟩, ?_⟩
      refine GC.lp_it (walk_list (K := K) (a := l) (xs := ws.map V.str)) (fun j H' => L2.Same H H' ∧ ∃ m, m ≤ i * 16 + j * 4 ∧ H' D = some (.lst ((List.replicate m true).map V.bl))) ?_ ?_ ?_ ?_
      · exact ⟨s1, m, by omega, hD1⟩
      · rintro j H2 _ ⟨s2, _⟩
        exact SqL.of (s2 _ _ hl)
      · rintro j y H2' H2 hj ⟨s2, m, hm, hD2⟩ ⟨rfl, hy⟩
        obtain ⟨y, ey, rfl⟩ := str_get hy
        have my : y ∈ ws := List.mem_of_getElem? ey
        rw [List.length_map] at hj
        dsimp only
        refine at_name (σ' := [some (.ref a), some (.ref l), some (.str x), some (.str y), none]) rfl ?_
        refine ⟨rfl, yes_if ?_⟩
        refine ⟨_, rfl, l, rfl, ⟨_, SqL.of (s2 _ _ hl)⟩, ?_⟩
        refine GC.lp_it (walk_list (K := K) (a := l) (xs := ws.map V.str)) (fun r H' => L2.Same H H' ∧ ∃ m, m ≤ i * 16 + j * 4 + r ∧ H' D = some (.lst ((List.replicate m true).map V.bl))) ?_ ?_ ?_ ?_
        · exact ⟨s2, m, by omega, hD2⟩
        · rintro r H3 _ ⟨s3, _⟩
          exact SqL.of (s3 _ _ hl)
        · rintro r z H3' H3 hr3 ⟨s3, m, hm, hD3⟩ ⟨rfl, hz⟩
          obtain ⟨z, ez, rfl⟩ := str_get hz
          have mz : z ∈ ws := List.mem_of_getElem? ez
          rw [List.length_map] at hr3
          dsimp only
          refine at_name (σ' := [some (.ref a), some (.ref l), some (.str x), some (.str y), some (.str z)]) rfl ?_
          refine ⟨rfl, yes_if ?_⟩
          have mxy := kw.cl x y mx my
          have myz := kw.cl y z my mz
          refine ⟨_, rfl, _, rfl, _, rfl, _, rfl, (by show 2 ≤ sizeLine; decide), fun t1 ht1 => ?_⟩
          have a1 := Same.new (H := H3) (o := .tup [.str x, .str y]) ht1
          have a2 : upd H3 t1 (.tup [.str x, .str y]) t1 = _ := upd_same
          generalize upd H3 t1 (.tup [.str x, .str y]) = G1 at a1 a2 ⊢
          refine ⟨a, _, rfl, ((tbH.mono s3).mono a1).get mx my a2, _, rfl, (by show 2 ≤ sizeLine; decide), fun t2 ht2 => ?_⟩
          have b1 := Same.new (H := G1) (o := .tup [.str (f x y), .str z]) ht2
          have b2 : upd G1 t2 (.tup [.str (f x y), .str z]) t2 = _ := upd_same
          generalize upd G1 t2 (.tup [.str (f x y), .str z]) = G2 at b1 b2 ⊢
          refine ⟨a, _, rfl, (((tbH.mono s3).mono a1).mono b1).get mxy mz b2, ?_⟩
          refine ⟨_, rfl, _, rfl, _, rfl, _, rfl, _, rfl, (by show 2 ≤ sizeLine; decide), fun t3 ht3 => ?_⟩
          have c1 := Same.new (H := G2) (o := .tup [.str y, .str z]) ht3
          have c2 : upd G2 t3 (.tup [.str y, .str z]) t3 = _ := upd_same
          generalize upd G2 t3 (.tup [.str y, .str z]) = G3 at c1 c2 ⊢
          refine ⟨a, _, rfl, ((((tbH.mono s3).mono a1).mono b1).mono c1).get my mz c2, (by show 2 ≤ sizeLine; decide), fun t4 ht4 => ?_⟩
          have d1 := Same.new (H := G3) (o := .tup [.str x, .str (f y z)]) ht4
          have d2 : upd G3 t4 (.tup [.str x, .str (f y z)]) t4 = _ := upd_same
          generalize upd G3 t4 (.tup [.str x, .str (f y z)]) = G4 at d1 d2 ⊢
          have al : ∀ b o, H3 b = some o → G4 b = some o := fun b o e => d1 _ _ (c1 _ _ (b1 _ _ (a1 _ _ e)))
          refine ⟨a, _, rfl, (((((tbH.mono s3).mono a1).mono b1).mono c1).mono d1).get mx myz d2, rfl, ?_⟩
          rw [kw.as x y z mx my mz, decide_eq_true rfl]
          refine ⟨_, al _ _ hD3, ?_, fun c o e => ?_, m + 1, by omega, ?_⟩
          · rw [List.length_map, List.length_replicate]
            exact small1000 (by omega)
          · rw [upd_ne (ne_of_none e hD)]
            exact al _ _ (s3 _ _ e)
          · rw [upd_same, List.replicate_succ', List.map_append]
            rfl
        · rintro H3 ⟨s3, m, hm, hD3⟩
          rw [List.length_map] at hm
          exact ⟨s3, m, by omega, hD3⟩
      · rintro H2 ⟨s2, m, hm, hD2⟩
        rw [List.length_map] at hm
        exact ⟨s2, m, by omega, hD2⟩
    · rintro H1 ⟨s1, m, hm, hD1⟩
      refine ⟨D, _, rfl, SqL.of hD1, ?_⟩
      rw [all_true]
      exact k _ s1
end
end KT
set_option Elab.async false
set_option linter.all false
set_option maxRecDepth 100000
set_option maxHeartbeats 4000000
namespace KT
open PySem L2 PyProof.Rows DTp TxS
theorem added_mem {L : List Str} {k x : Str} : x ∈ added L k ↔ x ∈ L ∨ x = k := by
  unfold added
  by_cases h : k ∈ L
  · rw [if_pos h]
    exact ⟨.inl, fun q => q.elim id fun e => e ▸ h⟩
  · rw [if_neg h, List.mem_append, List.mem_singleton]
theorem added_nodup {L : List Str} {k : Str} (n : L.Nodup) : (added L k).Nodup := by
  unfold added
  by_cases h : k ∈ L
  · rw [if_pos h]; exact n
  · rw [if_neg h]
    exact List.nodup_append.mpr ⟨n, by simp, fun a ha b hb e => h (by rw [← List.mem_singleton.mp hb, ← e]; exact ha)⟩
section
variable {P : Program} {w : World} {K : PySem.W.Frag} {mg : Str → Option Value} {base : Heap}
/-- sorted({one for one, _ in table}) -/
theorem rd_words {te0 : TE} {tg iter : Expr} {ifs : List Expr} {i j : Nat} {vs : List Nat} {σ : L2.St} {H : Hp} {Q : VK} {d : Addr} {kvs : List (List Key × V)} {ws : List Str} {f : Str → Str → Str}
    (hi : ∀ od (R : VK), R (.ref d) (upd H d (.frz od (.dT kvs))) → te0 σ (upd H d (.frz od (.dT kvs))) R) (hd : H d = some (.dT kvs)) (tb : TbG (SqW ws) keyP (valW f) kvs) (kw : KW ws f)
    (hw : ∀ a b, wipe (((wipe σ vs).set i (some a)).set j (some b)) vs = wipe σ vs) (hg : ∀ a b, (((wipe σ vs).set i (some a)).set j (some b))[i]? = some (some a))
    (k : ∀ l H', L2.Same H H' → H l = none → H' l = some (.lst (ws.map V.str)) → Q (.ref l) H') :
    tCB (rSortX w) (tCons (tLockE (GC.tCo (fun D => SetX w D []) ⟨tg, iter, ifs, iKeys te0, gXY K i j, tYes, vs⟩ [] (emX w (tVar i)))) tNil) σ H Q := by
  obtain ⟨is, e1, ndi, e2⟩ := tb.idxs keyP_inj
  have li : is.length = kvs.length := by rw [e1, List.length_map]
  refine ⟨d, .dT kvs, hd, trivial, fun od => ?_⟩
  refine hi od _ ⟨d, od, rfl, .inr ⟨kvs, upd_same, fun D hD => ?_⟩⟩
  have nDd : D ≠ d := fun e => by rw [e, upd_same] at hD; cases hD
  have hD0 : H D = none := by rw [upd_ne nDd] at hD; exact hD
  have small : ∀ L : List Str, L.Nodup → (∀ x ∈ L, x ∈ ws) → L.length ≤ 4 := fun L n h => Nat.le_trans (List.Nodup.length_le_of_subset n h) kw.few
  refine GC.lp_it walk_keysT (fun n H' => ∃ L : List Str, L2.Same (upd H d (.frz od (.dT kvs))) H' ∧ H' D = some (SetX w D L) ∧ L.Nodup ∧ ∀ x, x ∈ L ↔ x ∈ (is.take n).map (·.1)) ?_ ?_ ?_ ?_
  · exact ⟨[], Same.new hD, upd_same, .nil, fun x => by simp⟩
  · rintro i H1 _ ⟨L, s1, _⟩
    exact s1 _ _ upd_same
  · rintro n x H0 H1 hn ⟨L, s1, hD1, nL, mL⟩ ⟨rfl, kk, v, q, hk, rfl, hq⟩
    have hn' : n < is.length := by omega
    have ea : is[n]? = some is[n] := List.getElem?_eq_getElem hn'
    have ek : kvs[n]? = some (keyP is[n], valW f is[n]) := by
      have e3 := congrArg (fun l : List (List Key × V) => l[n]?) e1
      simp only [List.getElem?_map, ea] at e3
      exact e3
    rw [hk] at ek
    have ek := Option.some.inj ek
    have mi := (e2 is[n]).mpr (List.getElem_mem hn')
    obtain ⟨⟨x, y⟩, exy⟩ : ∃ a, a = is[n] := ⟨_, rfl⟩
    rw [← exy] at ek ea mi
    obtain ⟨rfl, rfl⟩ : kk = keyP (x, y) ∧ v = valW f (x, y) := ⟨congrArg Prod.fst ek, congrArg Prod.snd ek⟩
    have hq' : H1 q = some (.tup [.str x, .str y]) := hq
    have inw : ∀ z, z ∈ L → z ∈ ws := fun z hz => by
      obtain ⟨p, hp, rfl⟩ := List.mem_map.mp ((mL z).mp hz)
      exact ((e2 p).mpr (List.mem_of_mem_take hp)).1
    have l4 := small L nL inw
    refine ⟨q, _, rfl, SqT.of hq', rfl, _, _, rfl, _, _, rfl, rfl, hw _ _, ?_⟩
    dsimp only
    refine yes_if ?_
    refine ⟨_, hg _ _, x, L, rfl, hD1, ?_, added L x, fun c o e => ?_, upd_same, added_nodup nL, fun z => ?_⟩
    · have : (100 : Nat) < scanBound := by decide +kernel
      omega
    · rw [upd_ne (ne_of_none e hD)]
      exact s1 _ _ e
    · rw [added_mem, mL, take_next' ea, List.map_append, List.mem_append]
      simp
  · rintro H1 ⟨L, s1, hD1, nL, mL⟩
    rw [← li, List.take_length] at mL
    have hdl : H1 d = some (.frz od (.dT kvs)) := s1 _ _ upd_same
    have mW : ∀ z, z ∈ L ↔ z ∈ ws := fun z => by
      rw [mL, List.mem_map]
      constructor
      · rintro ⟨p, hp, rfl⟩
        exact ((e2 p).mpr hp).1
      · intro hz
        exact ⟨(z, z), (e2 (z, z)).mp ⟨hz, hz⟩, rfl⟩
    have l4 := small L nL fun z hz => (mW z).mp hz
    refine ⟨hdl, D, L, rfl, ?_, by omega, fun ys l pm so hl => ?_⟩
    · rw [upd_ne nDd]; exact hD1
    · have same : L2.Same H (upd H1 d (.dT kvs)) := fun b o e => by
        by_cases hb : b = d
        · rw [hb] at e ⊢
          rw [hd] at e
          rw [upd_same]; exact e
        · rw [upd_ne hb]
          exact s1 _ _ ((upd_ne hb).trans e)
      have hl0 := same.free hl
      have asc := sortedS_asc so (pm.nodup_iff.mpr nL)
      have ey : ys = ws := asc.eq kw.asc ((List.perm_ext_iff_of_nodup (pm.nodup_iff.mpr nL) kw.asc.nodup).mpr fun z => by rw [pm.mem_iff, mW])
      rw [ey]
      refine k l _ (fun b o e => ?_) hl0 upd_same
      rw [upd_ne (ne_of_none e hl0)]
      exact same _ _ e
def spIsTable : Sp := fun vs H Q _ => ∃ (a : Addr) (kvs : List (List Key × V)) (ws : List Str) (f : Str → Str → Str), vs = [.ref a] ∧ H a = some (.dT kvs) ∧ TbG (SqW ws) keyP (valW f) kvs ∧ KW ws f ∧ ∀ H', L2.Same H H' → Q (.bl true) H'
abbrev nIsTable : List Str := ["table", "words", "pair", "one", "_"]
theorem scIsTable : FnScope nIsTable ["table"] (defScope pIsTable) := ⟨rfl, rfl, rfl, by decide +kernel, rfl, by decide +kernel, by decide +kernel⟩
structure IsTC (P : Program) (w : World) (K : PySem.W.Frag) (mg : Str → Option Value) (base : Heap) : Prop where
  pair : Cee P w K mg base 2 "_is_pair" ["value"] spIsPair
  full : Cee P w K mg base 1 "_is_full" ["table", "words"] spIsFull
  free : Cee P w K mg base 1 "_is_free_of_brackets" ["table", "words"] spIsFull
theorem ok_isTable {f : Addr} {fd : FuncData} (F : Fun K "_is_table" "_is_table" pIsTable f fd) (T : Blt mg) (Z : Blp mg) (C : IsTC P w K mg base) : FnOk P w K mg base CX0 3 f fd ["table"] spIsTable := by
  refine F.ok scIsTable (fun vs H Q E h => ?_) (fun cdv A outer s H vs Q E hr h => ?_)
  · obtain ⟨a, kvs, ws, f, rfl, _⟩ := h
    rfl
  · obtain ⟨a, kvs, ws, f, rfl, ha, tb, kw, k⟩ := h
    have nd := scIsTable.nd
    refine ⟨_, pss_cons (ps_if (pt_cut <| PW.pt (pw_or (pt_not (pt_val (pe_callB call_isi (by rfl) Z.isi boot_isi (pa_cons (pv 0) (pa_cons (pe_bltn (v := .ty "dict") (by rfl) Z.dict (by decide +kernel) rfl) pa_nil)))))
          (pw_or1 (pt_cmpR op_eq (pe_callB call_len_dT (by rfl) T.len PySem.boot_len (pa_cons (pv 0) pa_nil)) pe_int (nomark _))))) (pss_one (ps_ret pe_bl)) pss_nil)
      (pss_cons (ps_if (pt_not (pt_val (pe_callB (cr_all rfl) (by rfl) Z.all (by decide +kernel) (pa_cons (pe_lock
          (pe_lc (own := [("pair", 2)]) (g := gName 2) (tt := tYes) (te := tCall spIsPair [] E0 (tCons (tVar 2) tNil)) rfl nd (pi_keys (pv 0)) (blkOk_by (own := [("pair", 2)]) (N := nIsTable) (sc := defScope pIsTable) (by decide +kernel))
            (fun _ _ _ _ _ => pg_name (i := 2) nd rfl (Or.inl rfl)) (fun _ _ _ _ _ => pts_nil) (fun _ _ _ _ _ => pe_c C.pair hr rfl (pa_cons (pv 2) pa_nil)))) pa_nil)))) (pss_one (ps_ret pe_bl)) pss_nil)
      (pss_cons (ps_set (i := 1) nd rfl (Or.inl rfl) (pe_callB (cr_sortX rfl) (by rfl) Z.sorted (by decide +kernel) (pa_cons (pe_lock
          (pe_scX (own := [("one", 3), ("_", 4)]) (g := gXY K 3 4) (tt := tYes) (te := tVar 3) rfl nd (pi_keys (pv 0)) (blkOk_by (own := [("one", 3), ("_", 4)]) (N := nIsTable) (sc := defScope pIsTable) (by decide +kernel))
            (fun _ _ _ _ _ => pg_tup rfl (pgs_cons (pg_name (i := 3) nd rfl (Or.inl rfl)) (pgs_cons (pg_name (i := 4) nd rfl (Or.inl rfl)) pgs_nil))) (fun _ _ _ _ _ => pts_nil) GC.cl0 trivial (fun _ _ _ _ _ => pv 3))) pa_nil)))
      (pss_one (ps_ret (pe_and (pe_c C.full hr rfl (pa_cons (pv 0) (pa_cons (pv 1) pa_nil))) (pe_one (pe_c C.free hr rfl (pa_cons (pv 0) (pa_cons (pv 1) pa_nil))))))))), ?_⟩
    have kl := tbW_len tb kw.asc.nodup
    have k4 := kw.few
    have k1 := kw.pos
    have n16 : ws.length * ws.length ≤ 16 := Nat.le_trans (Nat.mul_le_mul k4 k4) (by decide)
    have n1 : 0 < ws.length * ws.length := Nat.mul_pos k1 k1
    refine ⟨fun b H' => b = false ∧ H' = H, ?_, ?_⟩
    · refine ⟨_, rfl, _, _, _, _, true, rfl, .ty _, .base (.dT ha), kit_ty (by decide +kernel), _, rfl, iteF ?_⟩
      refine ⟨_, rfl, a, kvs, rfl, ha, rfl, _, rfl, ?_⟩
      rw [decide_eq_false]
      · exact ⟨rfl, rfl⟩
      · intro e
        injection e with e
        omega
    · rintro b H' ⟨rfl, e0⟩
      subst H'
      refine iteF ?_
      obtain ⟨is, e1, ndi, e2⟩ := tb.idxs keyP_inj
      have li : is.length = kvs.length := by rw [e1, List.length_map]
      refine ⟨a, .dT kvs, ha, trivial, fun od => ?_⟩
      refine ⟨_, rfl, a, od, rfl, .inr ⟨kvs, upd_same, fun D hD => ?_⟩⟩
      have nDa : D ≠ a := fun e => by rw [e, upd_same] at hD; cases hD
      refine lc_true walk_keysT (by omega) hD (fun H' s => s _ _ upd_same) ?_ ?_
      · rintro n x H0 H1 R hn s1 ⟨rfl, kk, v, q, hk, rfl, hq⟩ kR
        have hn' : n < is.length := by omega
        have ek : kvs[n]? = some (keyP is[n], valW f is[n]) := by
          have e3 := congrArg (fun l : List (List Key × V) => l[n]?) e1
          simp only [List.getElem?_map, List.getElem?_eq_getElem hn'] at e3
          exact e3
        rw [hk] at ek
        have ek := Option.some.inj ek
        have mi := (e2 is[n]).mpr (List.getElem_mem hn')
        obtain ⟨⟨x, y⟩, exy⟩ : ∃ a, a = is[n] := ⟨_, rfl⟩
        rw [← exy] at ek mi
        obtain ⟨rfl, rfl⟩ : kk = keyP (x, y) ∧ v = valW f (x, y) := ⟨congrArg Prod.fst ek, congrArg Prod.snd ek⟩
        have hq' : H1 q = some (.tup [.str x, .str y]) := hq
        refine ⟨rfl, _, rfl, q, x, y, rfl, hq', kw.wd x mi.1, kw.wd y mi.2, fun H3 s3 => kR _ s3⟩
      · intro H1 s1 hD1
        refine ⟨s1 _ _ upd_same, ?_⟩
        have hD2 : (upd H1 a (.dT kvs)) D = some (.lst ((List.replicate kvs.length true).map V.bl)) := (upd_ne nDa).trans hD1
        refine ⟨D, _, rfl, SqL.of hD2, _, rfl, ?_⟩
        rw [all_true]
        refine iteF ?_
        have s2 : L2.Same H (upd H1 a (.dT kvs)) := fun b o e => by
          by_cases hb : b = a
          · rw [hb] at e ⊢
            rw [ha] at e
            rw [upd_same]; exact e
          · rw [upd_ne hb]
            exact s1 _ _ ((upd_ne hb).trans e)
        have ha2 := s2 _ _ ha
        generalize upd H1 a (.dT kvs) = G at s2 ha2 ⊢
        refine rd_words (f := f) (fun od R hh => ⟨_, rfl, hh⟩) ha2 tb kw (fun _ _ => rfl) (fun _ _ => rfl) fun l H2 s3 hl0 hl => ?_
        refine at_name (σ' := [some (.ref a), some (.ref l), none, none, none]) rfl ?_
        refine ⟨_, rfl, _, rfl, a, l, kvs, ws, f, rfl, s3 _ _ ha2, tb, kw, hl, fun H3 s4 => ⟨_, rfl, iteT ?_⟩⟩
        refine ⟨_, rfl, _, rfl, a, l, kvs, ws, f, rfl, s4 _ _ (s3 _ _ ha2), tb, kw, s4 _ _ hl, fun H5 s5 => k _ fun b o e => s5 _ _ (s4 _ _ (s3 _ _ (s2 _ _ e)))⟩
end
end KT
set_option Elab.async false
set_option linter.all false
set_option maxRecDepth 100000
set_option maxHeartbeats 4000000
namespace KT
open PySem L2 PyProof.Rows DTp TxS
theorem u0 {u : Nat} (h : u + 64 < cLine) : u < cLine := by omega
theorem k_tw : ¬ (("_table" : Str) = "_words") := by decide +kernel
def flds (d l : Addr) : List (Str × V) := putF "_words" (.ref l) (putF "_table" (.ref d) [])
theorem flds_eq (d l : Addr) : flds d l = ([("_table", V.ref d), ("_words", V.ref l)] : List (Str × V)) := by
  show (if ("_table" : Str) = "_words" then [(("_table" : Str), V.ref l)] else (("_table" : Str), V.ref d) :: putF "_words" (V.ref l) []) = ([("_table", V.ref d), ("_words", V.ref l)] : List (Str × V))
  rw [if_neg k_tw]
  all_goals rfl
theorem flds_t (d l : Addr) : (flds d l).lookup ("_table" : Str) = some (.ref d) := by
  unfold flds
  rw [lookup_putF, if_neg k_tw, lookup_putF, if_pos rfl]
theorem flds_w (d l : Addr) : (flds d l).lookup ("_words" : Str) = some (.ref l) := by
  unfold flds
  rw [lookup_putF, if_pos rfl]
theorem flds_no (d l : Addr) {m : Str} (h1 : ¬ m = "_words") (h2 : ¬ m = "_table") : (flds d l).lookup m = none := by
  unfold flds
  rw [lookup_putF, if_neg h1, lookup_putF, if_neg h2]
  all_goals rfl
/-- the Kinds of f over ws stands at p -/
structure KdIn (C : Addr) (H : Hp) (p dx d l : Addr) (ws : List Str) (f : Str → Str → Str) : Prop where
  ob : H p = some (.ins C dx (flds d l))
  dc : H d = some (.dT (tabW ws f))
  ls : H l = some (.lst (ws.map V.str))
  kw : KW ws f
def KdAt (C : Addr) (H : Hp) (p : Addr) (ws : List Str) (f : Str → Str → Str) : Prop := ∃ dx d l, KdIn C H p dx d l ws f
theorem KdAt.mono {C : Addr} {H H' : Hp} {p : Addr} {ws : List Str} {f : Str → Str → Str} (s : L2.Same H H') (h : KdAt C H p ws f) : KdAt C H' p ws f := let ⟨dx, d, l, k⟩ := h; ⟨dx, d, l, s _ _ k.ob, s _ _ k.dc, s _ _ k.ls, k.kw⟩
/-- what the walk asks of the class -/
structure KTx (K : PySem.W.Frag) (mg : Str → Option Value) (C : Addr) : Prop where
  cl : L2.Cls K C
  nT : NoAttr K C "_table"
  nW : NoAttr K C "_words"
  mgC : mg "Kinds" = some (.ref C)
  ha : PySem.W.findIn K (.ref C) "__class__" = some (some (.builtin "object.__class__"))
  hn : PySem.W.specialIn K (.builtin "object.__class__") "__get__" = some (some (.builtin "getset_descriptor.__get__"))
  htk : PySem.W.takesIn K (.builtin "object.__class__") = some true
  hm : PySem.W.mroIn K C (.type "object") = some true
  own : PySem.W.kitOne K (.ref C) (.ref C) = some true
theorem KTx.ty {K : PySem.W.Frag} {mg : Str → Option Value} {C p dx : Addr} {fs : List (Str × V)} {H : Hp} (T : KTx K mg C) (h : H p = some (.ins C dx fs)) : TyX K H (.ref p) (.ref C) := .base (.ins h T.cl T.ha T.hn T.htk T.hm)
/-- a method as its callers know it -/
structure Mee (P : Program) (w : World) (K : PySem.W.Frag) (mg : Str → Option Value) (base : Heap) (C : Addr) (k : Nat) (m : Str) (ps : List Str) (sp : Sp) : Prop where
  ex : ∃ (f : Addr) (fd : FuncData), Meth K C m f ∧ FnOk P w K mg base CX0 k f fd ps sp ∧ Binds K fd ps []
section
variable {X : Cx} {k j : Nat} {m : Str} {ps : List Str} {sp : Sp} {apos pos : Pos} {o e : Expr} {es : List Expr} {to : TE} {t : TA} {C : Addr}
theorem pe_m0 {pl : Sem Bool} (M : Mee X.prog X.w X.K X.mg X.base C k m ps sp) (c : L2.Cls X.K C) (hr : Room j X.A) (he : PE X o to) (hkj : k ≤ j := by decide)
    (ht : eval (.Call (.Attribute o m apos) [] [] pos) X.env = (do
      let ov ← eval o X.env
      standAt apos.atName
      let (f, first) ← holding [ov] (getMethod ov m pl)
      callWith pos f first (backTo pos (starEach [] X.env)) (backToKw pos (keywordEach [] X.env))) := by rfl) :
    PE X (.Call (.Attribute o m apos) [] [] pos) (tMeth C m sp [] E0 to tNil) := by
  obtain ⟨f, fd, h1, h2, h3⟩ := M.ex
  exact pe_meth0 he c h1 h2 (hr.mono hkj) h3 .nil pass0 ht
theorem pe_m {pl : Sem Bool} (M : Mee X.prog X.w X.K X.mg X.base C k m ps sp) (c : L2.Cls X.K C) (hr : Room j X.A) (he : PE X o to) (ha : PA X (e :: es) t) (hkj : k ≤ j := by decide)
    (hst : starEach (e :: es) X.env = (false, eval e X.env) :: starEach es X.env := by rfl) (hpl : (backTo pos (starEach es X.env)).any (·.1) = false := by rfl)
    (ht : eval (.Call (.Attribute o m apos) (e :: es) [] pos) X.env = (do
      let ov ← eval o X.env
      standAt apos.atName
      let (f, first) ← holding [ov] (getMethod ov m pl)
      callWith pos f first (backTo pos (starEach (e :: es) X.env)) (backToKw pos (keywordEach [] X.env))) := by rfl) :
    PE X (.Call (.Attribute o m apos) (e :: es) [] pos) (tMeth C m sp [] E0 to t) := by
  obtain ⟨f, fd, h1, h2, h3⟩ := M.ex
  exact pe_meth he c h1 h2 (hr.mono hkj) h3 .nil pass0 ha hst hpl ht
end
section
variable {P : Program} {w : World} {K : PySem.W.Frag} {mg : Str → Option Value} {base : Heap} {C : Addr}
def spKTable (C : Addr) : Sp := fun vs H Q _ => ∃ (p : Addr) (ws : List Str) (f : Str → Str → Str), vs = [.ref p] ∧ KdAt C H p ws f ∧ ∀ (q : Addr) (H' : Hp), L2.Same H H' → H q = none → H' q = some (.dT (tabW ws f)) → Q (.ref q) H'
abbrev nKTable : List Str := ["self", "pair"]
theorem scKTable : FnScope nKTable ["self"] (defScope kTable) := ⟨rfl, rfl, rfl, by decide +kernel, rfl, by decide +kernel, by decide +kernel⟩
theorem tabW_merge {ws : List Str} {f : Str → Str → Str} (n : ws.Nodup) : mergeT [] ((pairsW ws).map fun p => (keyP p, valW f p)) = tabW ws f := by
  rw [mergeT_nd _ _ (by rw [List.nil_append]; exact (tabW_tb (f := f) n).nd)]
  rfl
theorem pairs16 {ws : List Str} {f : Str → Str → Str} (kw : KW ws f) : (pairsW ws).length ≤ 16 := by
  rw [pairsW_len]
  exact Nat.le_trans (Nat.mul_le_mul kw.few kw.few) (by decide)
theorem ok_ktable {g : Addr} {fd : FuncData} (F : Fun K "table" "Kinds.table" kTable g fd) (T : KTx K mg C) : FnOk P w K mg base CX0 1 g fd ["self"] (spKTable C) := by
  refine F.ok scKTable (fun vs H Q E h => ?_) (fun cdv A outer s H vs Q E hr h => ?_)
  · obtain ⟨p, ws, f, rfl, _⟩ := h
    rfl
  · obtain ⟨p, ws, f, rfl, ⟨dx, d, l, kd⟩, k⟩ := h
    have nd := scKTable.nd
    refine ⟨_, pss_one (ps_ret (pe_lock (GC.pe_dcT (own := [("pair", 1)]) (g := gName 1) (tt := tYes) (tk := tVar 1) (tv := tDGet (tFld K (tVar 0) "_table") (tVar 1)) (u0 hr.units) rfl nd (pi_keys (pe_fld (pv 0) rfl))
      (blkOk_by (own := [("pair", 1)]) (N := nKTable) (sc := defScope kTable) (by decide +kernel)) (fun _ _ _ _ _ => pg_name (i := 1) nd rfl (Or.inl rfl)) (fun _ _ _ _ _ => pts_nil) GC.cl0 trivial (fun _ _ _ _ _ => pv 1)
      (fun _ _ _ _ _ => pe_dget (hu_of hr) (pe_fld (pv 0) rfl) (pv 1) (fun _ _ => rfl))))), ?_⟩
    have npd : p ≠ d := ne_of kd.ob kd.dc (by intro z; cases z)
    have nW := kd.kw.asc.nodup
    have tbd := tabW_tb (f := f) nW
    refine dc_keys (key := keyP) (key2 := keyP) (val := valW f) (val2 := valW f) (is := pairsW ws) (fun od R hh => ⟨_, rfl, p, C, dx, _, _, rfl, (upd_ne npd).trans kd.ob, T.cl, T.nT, flds_t _ _, hh⟩) kd.dc rfl (by have := pairs16 kd.kw; omega) ?_ ?_
    · rintro ⟨x, y⟩ q od H1 R Cn kc ha s1 hq kR
      obtain ⟨mx, my⟩ := mem_pairsW.mp ha
      have hp1 : H1 p = some (.ins C dx (flds d l)) := s1 _ _ ((upd_ne npd).trans kd.ob)
      have td : TabW H1 d ws f := ⟨_, .inr ⟨od, s1 _ _ upd_same⟩, tbd⟩
      refine at_name (σ' := [some (.ref p), some (.ref q)]) rfl ⟨rfl, kc _ _ ?_⟩
      exact ⟨_, rfl, _, rfl, p, C, dx, _, _, rfl, hp1, T.cl, T.nT, flds_t _ _, _, rfl, d, _, rfl, td.get mx my hq, kR q _ (fun _ _ e => e) hq⟩
    · intro q H1 s1 hq0 hq
      rw [tabW_merge nW] at hq
      exact k q H1 s1 hq0 hq
/-- words() -/
def spKWords (C : Addr) : Sp := fun vs H Q _ => ∃ (p : Addr) (ws : List Str) (f : Str → Str → Str), vs = [.ref p] ∧ KdAt C H p ws f ∧ ∀ (q : Addr) (H' : Hp), L2.Same H H' → H q = none → H' q = some (.lst (ws.map V.str)) → Q (.ref q) H'
theorem scKWords : FnScope ["self"] ["self"] (defScope kWords) := ⟨rfl, rfl, rfl, by decide +kernel, rfl, by decide +kernel, by decide +kernel⟩
theorem ok_kwords {g : Addr} {fd : FuncData} (F : Fun K "words" "Kinds.words" kWords g fd) (T : KTx K mg C) (Z : Blp mg) : FnOk P w K mg base CX0 1 g fd ["self"] (spKWords C) := by
  refine F.ok scKWords (fun vs H Q E h => ?_) (fun cdv A outer s H vs Q E hr h => ?_)
  · obtain ⟨p, ws, f, rfl, _⟩ := h
    rfl
  · obtain ⟨p, ws, f, rfl, ⟨dx, d, l, kd⟩, k⟩ := h
    refine ⟨_, pss_one (ps_ret (pe_callTy call_list_of (by rfl) Z.list (by decide +kernel) (pa_cons (pe_fld (pv 0) rfl) pa_nil))), ?_⟩
    exact ⟨_, rfl, p, C, dx, _, _, rfl, kd.ob, T.cl, T.nW, flds_w _ _, l, _, rfl, .inl (SqL.of kd.ls), fun q hq => k q _ (Same.new hq) hq upd_same⟩
def spIsKind (C : Addr) : Sp := fun vs H Q _ => ∃ (p : Addr) (ws : List Str) (f : Str → Str → Str) (x : Str), vs = [.ref p, .str x] ∧ KdAt C H p ws f ∧ x ∈ ws ∧ ∀ H', L2.Same H H' → Q (.bl true) H'
theorem scIsKind : FnScope ["kinds", "value"] ["kinds", "value"] (defScope pIsKind) := ⟨rfl, rfl, rfl, by decide +kernel, rfl, by decide +kernel, by decide +kernel⟩
theorem ok_isKind {g : Addr} {fd : FuncData} (F : Fun K "is_kind" "is_kind" pIsKind g fd) (T : KTx K mg C) (Z : Blp mg) (M : Mee P w K mg base C 1 "words" ["self"] (spKWords C)) : FnOk P w K mg base CX0 2 g fd ["kinds", "value"] (spIsKind C) := by
  refine F.ok scIsKind (fun vs H Q E h => ?_) (fun cdv A outer s H vs Q E hr h => ?_)
  · obtain ⟨p, ws, f, x, rfl, _⟩ := h
    rfl
  · obtain ⟨p, ws, f, x, rfl, kd, mx, k⟩ := h
    refine ⟨_, pss_one (ps_ret (pe_and (pe_callB call_isi (by rfl) Z.isi boot_isi (pa_cons (pv 1) (pa_cons (pe_bltn (v := .ty "str") (by rfl) Z.str (by decide +kernel) rfl) pa_nil)))
      (pe_one (pe_cmpR op_in_seq (pv 1) (pe_m0 M T.cl hr (pv 0)) (by rfl))))), ?_⟩
    refine ⟨_, rfl, _, _, _, _, true, rfl, .ty _, .base (.str _), kit_ty (by decide +kernel), _, rfl, iteT ?_⟩
    obtain ⟨dx, d, l, kd'⟩ := id kd
    refine ⟨_, rfl, _, rfl, p, dx, _, rfl, kd'.ob, flds_no _ _ (by decide +kernel) (by decide +kernel), p, ws, f, rfl, kd, fun q H1 s1 hq0 hq => ?_⟩
    refine ⟨q, _, rfl, .inl (SqL.of hq), rfl, flat_strs ws, ?_⟩
    rw [if_neg Bool.false_ne_true, inV_strs, decide_eq_true mx]
    exact k _ s1
def spCheckKind (C : Addr) : Sp := fun vs H Q _ => ∃ (p : Addr) (ws : List Str) (f : Str → Str → Str) (x : Str), vs = [.ref p, .str x] ∧ KdAt C H p ws f ∧ x ∈ ws ∧ ∀ H', L2.Same H H' → Q .non H'
theorem scCheckKind : FnScope ["kinds", "kind"] ["kinds", "kind"] (defScope pCheckKind) := ⟨rfl, rfl, rfl, by decide +kernel, rfl, by decide +kernel, by decide +kernel⟩
theorem ok_checkKind {g : Addr} {fd : FuncData} (F : Fun K "check_kind" "check_kind" pCheckKind g fd) (M : Cee P w K mg base 2 "is_kind" ["kinds", "value"] (spIsKind C)) : FnOk P w K mg base CX0 3 g fd ["kinds", "kind"] (spCheckKind C) := by
  refine F.ok scCheckKind (fun vs H Q E h => ?_) (fun cdv A outer s H vs Q E hr h => ?_)
  · obtain ⟨p, ws, f, x, rfl, _⟩ := h
    rfl
  · obtain ⟨p, ws, f, x, rfl, kd, mx, k⟩ := h
    refine ⟨_, pss_one (ps_if (pt_not (pt_val (pe_c M hr rfl (pa_cons (pv 0) (pa_cons (pv 1) pa_nil))))) (pss_one ps_never) pss_nil), ?_⟩
    exact ⟨_, rfl, _, rfl, p, ws, f, x, rfl, kd, mx, fun H1 s1 => ⟨_, rfl, iteF (k _ s1)⟩⟩
def spCheckKinds (C : Addr) : Sp := fun vs H Q _ => ∃ (p : Addr) (ws : List Str) (f : Str → Str → Str), vs = [.ref p] ∧ KdAt C H p ws f ∧ Q .non H
theorem scCheckKinds : FnScope ["kinds"] ["kinds"] (defScope pCheckKinds) := ⟨rfl, rfl, rfl, by decide +kernel, rfl, by decide +kernel, by decide +kernel⟩
theorem ok_checkKinds {g : Addr} {fd : FuncData} (F : Fun K "check_kinds" "check_kinds" pCheckKinds g fd) (T : KTx K mg C) (Z : Blp mg) : FnOk P w K mg base CX0 1 g fd ["kinds"] (spCheckKinds C) := by
  refine F.ok scCheckKinds (fun vs H Q E h => ?_) (fun cdv A outer s H vs Q E hr h => ?_)
  · obtain ⟨p, ws, f, rfl, _⟩ := h
    rfl
  · obtain ⟨p, ws, f, rfl, kd, k⟩ := h
    refine ⟨_, pss_one (ps_if (pt_not (pt_val (pe_callB call_isi (by rfl) Z.isi boot_isi (pa_cons (pv 0) (pa_cons (pe_glob (v := .ref C) rfl T.mgC rfl) pa_nil))))) (pss_one ps_never) pss_nil), ?_⟩
    obtain ⟨dx, d, l, kd'⟩ := id kd
    exact ⟨_, rfl, _, _, _, _, true, rfl, .own _, T.ty kd'.ob, T.own, _, rfl, iteF k⟩
def spKPut (C : Addr) : Sp := fun vs H Q _ => ∃ (p : Addr) (ws : List Str) (f : Str → Str → Str) (x y : Str), vs = [.ref p, .str x, .str y] ∧ KdAt C H p ws f ∧ x ∈ ws ∧ y ∈ ws ∧ ∀ H', L2.Same H H' → Q (.str (f x y)) H'
theorem scKPut : FnScope ["self", "one", "other"] ["self", "one", "other"] (defScope kPut) := ⟨rfl, rfl, rfl, by decide +kernel, rfl, by decide +kernel, by decide +kernel⟩
theorem ok_kput {g : Addr} {fd : FuncData} (F : Fun K "put" "Kinds.put" kPut g fd) (T : KTx K mg C) (M : Cee P w K mg base 3 "check_kind" ["kinds", "kind"] (spCheckKind C)) : FnOk P w K mg base CX0 4 g fd ["self", "one", "other"] (spKPut C) := by
  refine F.ok scKPut (fun vs H Q E h => ?_) (fun cdv A outer s H vs Q E hr h => ?_)
  · obtain ⟨p, ws, f, x, y, rfl, _⟩ := h
    rfl
  · obtain ⟨p, ws, f, x, y, rfl, kd, mx, my, k⟩ := h
    refine ⟨_, pss_cons (ps_expr (pe_c M hr rfl (pa_cons (pv 0) (pa_cons (pv 1) pa_nil))))
      (pss_cons (ps_expr (pe_c M hr rfl (pa_cons (pv 0) (pa_cons (pv 2) pa_nil))))
      (pss_one (ps_ret (pe_dget (hu_of hr) (pe_fld (pv 0) rfl) (pe_tup (pa_cons (pv 1) (pa_cons (pv 2) pa_nil))) (fun _ _ => rfl))))), ?_⟩
    refine ⟨_, rfl, _, rfl, p, ws, f, x, rfl, kd, mx, fun H1 s1 => ?_⟩
    refine ⟨_, rfl, _, rfl, p, ws, f, y, rfl, kd.mono s1, my, fun H2 s2 => ?_⟩
    obtain ⟨dx, d, l, kd'⟩ := (kd.mono s1).mono s2
    refine ⟨_, rfl, p, C, dx, _, _, rfl, kd'.ob, T.cl, T.nT, flds_t _ _, _, rfl, _, rfl, (by show 2 ≤ sizeLine; decide), fun t ht => ?_⟩
    have td : TabW H2 d ws f := ⟨_, .inl kd'.dc, tabW_tb kd'.kw.asc.nodup⟩
    exact ⟨d, _, rfl, (td.mono (Same.new ht)).get mx my upd_same, k _ fun b o e => Same.new ht _ _ (s2 _ _ (s1 _ _ e))⟩
end
end KT
set_option Elab.async false
set_option linter.all false
set_option maxRecDepth 100000
set_option maxHeartbeats 4000000
namespace KT
open PySem L2 PyProof.Rows DTp TxS
section
variable {P : Program} {w : World} {K : PySem.W.Frag} {mg : Str → Option Value} {base : Heap} {C : Addr}
def spKInit (C : Addr) : Sp := fun vs H Q _ => ∃ (p dx a : Addr) (kvs : List (List Key × V)) (ws : List Str) (f : Str → Str → Str), vs = [.ref p, .ref a] ∧ H p = some (.ins C dx []) ∧ H a = some (.dT kvs) ∧ TbG (SqW ws) keyP (valW f) kvs ∧ KW ws f ∧
  ∀ H' d l, KdIn C H' p dx d l ws f → H d = none → H l = none → (∀ b o, H b = some o → b ≠ p → H' b = some o) → Q .non H'
abbrev nKInit : List Str := ["self", "table", "pair", "one", "_"]
theorem scKInit : FnScope nKInit ["self", "table"] (defScope kInit) := ⟨rfl, rfl, rfl, by decide +kernel, rfl, by decide +kernel, by decide +kernel⟩
theorem ok_kinit {g : Addr} {fd : FuncData} (F : Fun K "__init__" "Kinds.__init__" kInit g fd) (T : KTx K mg C) (Z : Blp mg) (M : Cee P w K mg base 3 "_is_table" ["table"] spIsTable) : FnOk P w K mg base CX0 4 g fd ["self", "table"] (spKInit C) := by
  refine F.ok scKInit (fun vs H Q E h => ?_) (fun cdv A outer s H vs Q E hr h => ?_)
  · obtain ⟨p, dx, a, kvs, ws, f, rfl, _⟩ := h
    rfl
  · obtain ⟨p, dx, a, kvs, ws, f, rfl, hp, ha, tb, kw, k⟩ := h
    have nd := scKInit.nd
    refine ⟨_, pss_cons (ps_if (pt_not (pt_val (pe_c M hr rfl (pa_cons (pv 1) pa_nil)))) (pss_one ps_never) pss_nil)
      (pss_cons (ps_fld (pv 0) (GC.pe_dcT (own := [("pair", 2)]) (g := gName 2) (tt := tYes) (tk := tVar 2) (tv := tDGet (tVar 1) (tVar 2)) (u0 hr.units) rfl nd (pi_list (pe_callB (cr_sortT rfl hr.units) (by rfl) Z.sorted (by decide +kernel) (pa_cons (pv 1) pa_nil)))
        (blkOk_by (own := [("pair", 2)]) (N := nKInit) (sc := defScope kInit) (by decide +kernel)) (fun _ _ _ _ _ => pg_name (i := 2) nd rfl (Or.inl rfl)) (fun _ _ _ _ _ => pts_nil) GC.cl0 trivial (fun _ _ _ _ _ => pv 2)
        (fun _ _ _ _ _ => pe_dget (hu_of hr) (pv 1) (pv 2) (fun _ _ => rfl))) rfl)
      (pss_one (ps_fld (pv 0) (pe_callB (cr_sortX rfl) (by rfl) Z.sorted (by decide +kernel) (pa_cons (pe_lock
          (pe_scX (own := [("one", 3), ("_", 4)]) (g := gXY K 3 4) (tt := tYes) (te := tVar 3) rfl nd (pi_keys (pv 1)) (blkOk_by (own := [("one", 3), ("_", 4)]) (N := nKInit) (sc := defScope kInit) (by decide +kernel))
            (fun _ _ _ _ _ => pg_tup rfl (pgs_cons (pg_name (i := 3) nd rfl (Or.inl rfl)) (pgs_cons (pg_name (i := 4) nd rfl (Or.inl rfl)) pgs_nil))) (fun _ _ _ _ _ => pts_nil) GC.cl0 trivial (fun _ _ _ _ _ => pv 3))) pa_nil)) rfl))), ?_⟩
    have nW := kw.asc.nodup
    have npa : p ≠ a := ne_of hp ha (by intro z; cases z)
    refine ⟨_, rfl, a, kvs, ws, f, rfl, ha, tb, kw, fun H1 s1 => ⟨_, rfl, iteF ?_⟩⟩
    obtain ⟨ps, f1, f2, f3, f4⟩ := sorted_keys tb nW kw.asc (.refl ws)
    have l16 := pairs16 kw
    have lps : ps.length ≤ 16 := by
      rw [f2, tbW_len tb nW]
      exact Nat.le_trans (Nat.mul_le_mul kw.few kw.few) (by decide)
    have ha1 := s1 _ _ ha
    dsimp only [tNext, tSeq, sFld]
    refine dc_list (K := K) (tl := tCB DTp.rSortT (tCons (tVar 1) tNil)) (tk := tVar 2) (tv := tDGet (tVar 1) (tVar 2)) (g := gName 2) (key2 := keyP) (val2 := valW f) (is := pairsW ws) (fun H' => L2.Same H1 H') (by omega) ?_ ?_
    · intro R hR
      refine ⟨_, rfl, a, kvs, ps, rfl, .inl ha1, f1, by omega, fun qs l h1 h2 h3 hl => ?_⟩
      have s2 := Same.new (H := H1) (o := .lst (qs.map fun q => V.ref q.1)) hl
      refine hR l qs _ (f4 _ h1 h2) upd_same s2 ?_
      intro m q H3 R2 Cn kc hq s3 kR
      have hq3 : H3 q.1 = some (.tup ((keyP q.2).map kV)) := s3 _ _ (s2 _ _ (h3 q (List.mem_of_getElem? hq)))
      have hq2 : q.2.1 ∈ ws ∧ q.2.2 ∈ ws := by
        have : q.2 ∈ qs.map (·.2) := List.mem_map.mpr ⟨q, List.mem_of_getElem? hq, rfl⟩
        rw [f4 _ h1 h2, mem_pairsW] at this
        exact this
      have td : TabW H3 a ws f := ⟨_, .inl (s3 _ _ (s2 _ _ ha1)), tb⟩
      refine at_name (σ' := [some (.ref p), some (.ref a), some (.ref q.1), none, none]) rfl ⟨rfl, kc _ _ ?_⟩
      exact ⟨_, rfl, _, rfl, _, rfl, a, _, rfl, td.get hq2.1 hq2.2 hq3, kR q.1 _ (fun _ _ e => e) hq3⟩
    · intro d H2 H3 s2 s3 hd0 hd
      rw [tabW_merge nW] at hd
      have s13 : L2.Same H1 H3 := fun b o e => s3 _ _ (s2 _ _ e)
      have s03 : L2.Same H H3 := fun b o e => s13 _ _ (s1 _ _ e)
      have s02 : L2.Same H H2 := fun b o e => s2 _ _ (s1 _ _ e)
      have hdH : H d = none := s02.free hd0
      have npd : p ≠ d := ne_of_none hp hdH
      have nad : a ≠ d := ne_of_none ha hdH
      refine ⟨_, rfl, p, C, dx, [], rfl, s03 _ _ hp, T.cl, T.nT, (by show 0 < 1000; decide), ?_⟩
      have ha4 : upd H3 p (.ins C dx (putF "_table" (.ref d) [])) a = some (.dT kvs) := (upd_ne npa.symm).trans (s03 _ _ ha)
      have hp4 : upd H3 p (.ins C dx (putF "_table" (.ref d) [])) p = some (.ins C dx (putF "_table" (.ref d) [])) := upd_same
      have hd4 : upd H3 p (.ins C dx (putF "_table" (.ref d) [])) d = some (.dT (tabW ws f)) := (upd_ne npd.symm).trans hd
      have st4 : ∀ b o, H b = some o → b ≠ p → upd H3 p (.ins C dx (putF "_table" (.ref d) [])) b = some o := fun b o e ne => (upd_ne ne).trans (s03 _ _ e)
      generalize upd H3 p (.ins C dx (putF "_table" (.ref d) [])) = G at ha4 hp4 hd4 st4 ⊢
      refine rd_words (f := f) (fun od R hh => ⟨_, rfl, hh⟩) ha4 tb kw (fun _ _ => rfl) (fun _ _ => rfl) fun l H5 s5 hl0 hl => ?_
      have npl : p ≠ l := ne_of_none hp4 hl0
      have ndl : d ≠ l := ne_of_none hd4 hl0
      refine ⟨_, rfl, p, C, dx, _, rfl, s5 _ _ hp4, T.cl, T.nW, (by show 1 < 1000; decide), ?_⟩
      have hlH : H l = none := by
        cases e : H l with
        | none => rfl
        | some o =>
          have := st4 l o e npl.symm
          rw [hl0] at this
          cases this
      refine k _ d l ⟨upd_same, (upd_ne npd.symm).trans (s5 _ _ hd4), (upd_ne npl.symm).trans hl, kw⟩ hdH hlH fun b o e ne => ?_
      rw [upd_ne ne]
      exact s5 _ _ (st4 b o e ne)
/-- a == b, b Kinds or anything else -/
def spKEq (K : PySem.W.Frag) (C : Addr) : Sp := fun vs H Q _ => ∃ (p : Addr) (y : V) (ws : List Str) (f : Str → Str → Str), vs = [.ref p, y] ∧ KdAt C H p ws f ∧
  ((∃ (q : Addr) (ws2 : List Str) (f2 : Str → Str → Str), y = .ref q ∧ KdAt C H q ws2 f2 ∧ Q (.bl (sameT (tabW ws f) (tabW ws2 f2))) H) ∨ ∃ t, TyX K H y t ∧ PySem.W.kitOne K t (.ref C) = some false ∧ Q (.bl false) H)
theorem tabW_txt (ws : List Str) (f : Str → Str → Str) : TxV (tabW ws f) := fun p hp => by
  obtain ⟨q, _, rfl⟩ := List.mem_map.mp hp
  exact ⟨_, rfl⟩
theorem scKEq : FnScope ["self", "other"] ["self", "other"] (defScope kEq) := ⟨rfl, rfl, rfl, by decide +kernel, rfl, by decide +kernel, by decide +kernel⟩
theorem ok_keq {g : Addr} {fd : FuncData} (F : Fun K "__eq__" "Kinds.__eq__" kEq g fd) (T : KTx K mg C) (Z : Blp mg) : FnOk P w K mg base CX0 1 g fd ["self", "other"] (spKEq K C) := by
  refine F.ok scKEq (fun vs H Q E h => ?_) (fun cdv A outer s H vs Q E hr h => ?_)
  · obtain ⟨p, y, ws, f, rfl, _⟩ := h
    rfl
  · obtain ⟨p, y, ws, f, rfl, ⟨dx, d, l, kd⟩, h⟩ := h
    refine ⟨_, pss_one (ps_ret (pe_and (pe_callB call_isi (by rfl) Z.isi boot_isi (pa_cons (pv 1) (pa_cons (pe_glob (v := .ref C) rfl T.mgC rfl) pa_nil)))
      (pe_one (pe_cmpR (op_eqT (hu_of hr)) (pe_fld (pv 0) rfl) (pe_fld (pv 1) rfl) (nomark _))))), ?_⟩
    rcases h with ⟨q, ws2, f2, rfl, ⟨dx2, d2, l2, kd2⟩, k⟩ | ⟨t, ty, kt, k⟩
    · refine ⟨_, rfl, _, _, _, _, true, rfl, .own _, T.ty kd2.ob, T.own, _, rfl, iteT ?_⟩
      exact ⟨_, rfl, p, C, dx, _, _, rfl, kd.ob, T.cl, T.nT, flds_t _ _, _, rfl, q, C, dx2, _, _, rfl, kd2.ob, T.cl, T.nT, flds_t _ _, d, d2, _, _, rfl, rfl, .inl kd.dc, .inl kd2.dc, tabW_txt _ _, tabW_txt _ _, k⟩
    · exact ⟨_, rfl, _, _, _, _, false, rfl, .own _, ty, kt, _, rfl, iteF k⟩
end
end KT
set_option Elab.async false
set_option linter.all false
set_option maxRecDepth 100000
set_option maxHeartbeats 4000000
namespace KT
open PySem L2
def pw (f : Str → Str → Str) (x : Str) : Nat → Str
  | 0 => x
  | n + 1 => f (pw f x n) x
section
variable {ws : List Str} {f : Str → Str → Str} {x : Str}
/-- L different powers, then the one at a again -/
structure Pws (f : Str → Str → Str) (x : Str) (L a : Nat) : Prop where
  lt : a < L
  l4 : L ≤ 4
  eq : pw f x L = pw f x a
  dis : ∀ i j, i < j → j < L → pw f x i ≠ pw f x j
/-- equal powers below L -/
theorem Pws.inj {L a i j : Nat} (h : Pws f x L a) (hi : i < L) (hj : j < L) (e : pw f x i = pw f x j) : i = j := by
  rcases Nat.lt_trichotomy i j with z | z | z
  · exact absurd e (h.dis i j z hj)
  · exact z
  · exact absurd e.symm (h.dis j i z hi)
/-- the least such -/
def Least (p : Nat → Prop) (m : Nat) : Prop := p m ∧ ∀ i, i < m → ¬ p i
theorem Least.uniq {p : Nat → Prop} {m n : Nat} (h : Least p m) (k : Least p n) : m = n := by
  rcases Nat.lt_trichotomy m n with z | z | z
  · exact absurd h.1 (k.2 m z)
  · exact z
  · exact absurd k.1 (h.2 n z)
end
end KT
set_option Elab.async false
set_option linter.all false
set_option maxRecDepth 100000
set_option maxHeartbeats 4000000
namespace KT
open PySem L2 PyProof.Rows DTp TxS
section
variable {P : Program} {w : World} {K : PySem.W.Frag} {mg : Str → Option Value} {base : Heap} {C : Addr}
theorem cut_tail (x : V) (xs : List V) : cutV (x :: xs) (some 1) none = xs := by
  unfold cutV
  have e1 : HT.sIx (x :: xs).length 0 (some (1 : Int)) = 1 := by
    have := HT.sIx_nat (x :: xs).length 0 1
    rw [show ((1 : Nat) : Int) = 1 from rfl] at this
    rw [this]
    simp
  rw [e1]
  show ((x :: xs).drop 1).take ((x :: xs).length - 1) = xs
  simp
/-- making Kinds -/
structure KMk (P : Program) (w : World) (K : PySem.W.Frag) (mg : Str → Option Value) (base : Heap) (C : Addr) : Prop where
  ex : ∃ (f : Addr) (fd : FuncData), Mk K C f ∧ FnOk P w K mg base CX0 4 f fd ["self", "table"] (spKInit C) ∧ Binds K fd ["self", "table"] []
section
variable {X : Cx} {j : Nat} {p pos : Pos} {e : Expr} {es : List Expr} {t : TA}
theorem pe_kinds (M : KMk X.prog X.w X.K X.mg X.base C) (hm : X.mg "Kinds" = some (.ref C)) (hr : Room j X.A) (hg : Gl X "Kinds") (ha : PA X (e :: es) t) (hkj : 5 ≤ j := by decide)
    (he : starEach (e :: es) X.env = (false, eval e X.env) :: starEach es X.env := by rfl) (hpl : (backTo pos (starEach es X.env)).any (·.1) = false := by rfl) :
    PE X (.Call (.Name "Kinds" p) (e :: es) [] pos) (tMake C (spKInit C) [] E0 t) := by
  obtain ⟨f, fd, h1, h2, h3⟩ := M.ex
  exact pe_make h1 h2 (hr.mono hkj) hg hm h3 .nil pass0 ha (by decide) he hpl
end
/-- the Kinds at x, all of it new since H -/
def KdNew (C : Addr) (H H' : Hp) (x : Addr) (ws : List Str) (f : Str → Str → Str) : Prop := ∃ dx d l, KdIn C H' x dx d l ws f ∧ H x = none ∧ H dx = none ∧ H d = none ∧ H l = none
theorem KdNew.at {C : Addr} {H H' : Hp} {x : Addr} {ws : List Str} {f : Str → Str → Str} (h : KdNew C H H' x ws f) : KdAt C H' x ws f := let ⟨dx, d, l, k, _⟩ := h; ⟨dx, d, l, k⟩
theorem mk_kinds {H : Hp} {Q : VK} {a : Addr} {kvs : List (List Key × V)} {ws : List Str} {f : Str → Str → Str} (ha : H a = some (.dT kvs)) (tb : TbG (SqW ws) keyP (valW f) kvs) (kw : KW ws f)
    (k : ∀ x H', KdNew C H H' x ws f → L2.Same H H' → Q (.ref x) H') : ∀ x dx, H x = none → H dx = none → dx ≠ x → spKInit C (.ref x :: ([.ref a] ++ [])) (upd (upd H dx (.own x)) x (.ins C dx [])) (fun v H2 => v = .non ∧ Q (.ref x) H2) E0 := by
  intro x dx hx hdx ne
  have n1 : a ≠ x := ne_of_none ha hx
  have n2 : a ≠ dx := ne_of_none ha hdx
  have free : ∀ z : Addr, upd (upd H dx (.own x)) x (.ins C dx []) z = none → H z = none := fun z hz => by
    by_cases e1 : z = x
    · rw [e1]; exact hx
    · rw [upd_ne e1] at hz
      by_cases e2 : z = dx
      · rw [e2]; exact hdx
      · rw [upd_ne e2] at hz
        exact hz
  refine ⟨x, dx, a, kvs, ws, f, rfl, upd_same, (upd_ne n1).trans ((upd_ne n2).trans ha), tb, kw, fun H' d l kd hd hl st => ⟨rfl, k x H' ⟨dx, d, l, kd, hx, hdx, free d hd, free l hl⟩ fun b o e => ?_⟩⟩
  have b1 : b ≠ x := ne_of_none e hx
  exact st b o ((upd_ne b1).trans ((upd_ne (ne_of_none e hdx)).trans e)) b1
def spIsKinds (C : Addr) : Sp := fun vs H Q _ => ∃ (p r : Addr) (ws : List Str) (f : Str → Str → Str) (row : List Str), vs = [.ref p, .ref r] ∧ KdAt C H p ws f ∧ H r = some (.lst (row.map V.str)) ∧ row.length ≤ 1000 ∧ (∀ x ∈ row, x ∈ ws) ∧ ∀ H', L2.Same H H' → Q (.bl true) H'
abbrev nIsKinds : List Str := ["kinds", "value", "kind"]
theorem scIsKinds : FnScope nIsKinds ["kinds", "value"] (defScope pIsKinds) := ⟨rfl, rfl, rfl, by decide +kernel, rfl, by decide +kernel, by decide +kernel⟩
theorem ok_isKinds {g : Addr} {fd : FuncData} (F : Fun K "is_list_of_kinds" "is_list_of_kinds" pIsKinds g fd) (Z : Blp mg) (M : Cee P w K mg base 2 "is_kind" ["kinds", "value"] (spIsKind C)) : FnOk P w K mg base CX0 3 g fd ["kinds", "value"] (spIsKinds C) := by
  refine F.ok scIsKinds (fun vs H Q E h => ?_) (fun cdv A outer s H vs Q E hr h => ?_)
  · obtain ⟨p, r, ws, f, row, rfl, _⟩ := h
    rfl
  · obtain ⟨p, r, ws, f, row, rfl, kd, hrow, few, mr, k⟩ := h
    have nd := scIsKinds.nd
    refine ⟨_, pss_one (ps_ret (pe_and (pe_callB call_isi (by rfl) Z.isi boot_isi (pa_cons (pv 1) (pa_cons (pe_bltn (v := .ty "list") (by rfl) Z.list (by decide +kernel) rfl) pa_nil)))
      (pe_one (pe_callB (cr_all rfl) (by rfl) Z.all (by decide +kernel) (pa_cons
        (pe_lc (own := [("kind", 2)]) (g := gName 2) (tt := tYes) (te := tCall (spIsKind C) [] E0 (tCons (tVar 0) (tCons (tVar 2) tNil))) rfl nd (pi_list (pv 1)) (blkOk_by (own := [("kind", 2)]) (N := nIsKinds) (sc := defScope pIsKinds) (by decide +kernel))
            (fun _ _ _ _ _ => pg_name (i := 2) nd rfl (Or.inl rfl)) (fun _ _ _ _ _ => pts_nil) (fun _ _ _ _ _ => pe_c M hr rfl (pa_cons (pv 0) (pa_cons (pv 2) pa_nil)))) pa_nil))))), ?_⟩
    refine ⟨_, rfl, _, _, _, _, true, rfl, .ty _, .base (.lst hrow), kit_ty (by decide +kernel), _, rfl, iteT ?_⟩
    refine ⟨_, rfl, r, rfl, ⟨_, SqL.of hrow⟩, fun D hD => ?_⟩
    refine lc_true (walk_list (K := K) (a := r) (xs := row.map V.str)) (by rw [List.length_map]; exact few) hD (fun H' s => SqL.of (s _ _ hrow)) ?_ ?_
    · rintro i v H0 H1 R hi s1 ⟨rfl, hx⟩ kR
      obtain ⟨x, ex, rfl⟩ := str_get hx
      exact ⟨rfl, _, rfl, _, rfl, p, ws, f, x, rfl, kd.mono s1, mr x (List.mem_of_getElem? ex), kR⟩
    · intro H1 s1 hD1
      refine ⟨D, _, rfl, SqL.of hD1, ?_⟩
      rw [all_true]
      exact k _ s1
def spPutAll (C : Addr) : Sp := fun vs H Q _ => ∃ (p r : Addr) (ws : List Str) (f : Str → Str → Str) (x : Str) (row : List Str), vs = [.ref p, .ref r] ∧ KdAt C H p ws f ∧ H r = some (.lst ((x :: row).map V.str)) ∧ row.length ≤ 900 ∧ (∀ y ∈ x :: row, y ∈ ws) ∧ ∀ H', L2.Same H H' → Q (.str (row.foldl f x)) H'
abbrev nPutAll : List Str := ["kinds", "row", "table", "whole", "kind"]
structure PutC (P : Program) (w : World) (K : PySem.W.Frag) (mg : Str → Option Value) (base : Heap) (C : Addr) : Prop where
  isk : Cee P w K mg base 3 "is_list_of_kinds" ["kinds", "value"] (spIsKinds C)
  chk : Cee P w K mg base 1 "check_kinds" ["kinds"] (spCheckKinds C)
  chd : Cee P w K mg base 3 "check_kind" ["kinds", "kind"] (spCheckKind C)
  tab : Mee P w K mg base C 1 "table" ["self"] (spKTable C)
  wor : Mee P w K mg base C 1 "words" ["self"] (spKWords C)
  put : Mee P w K mg base C 4 "put" ["self", "one", "other"] (spKPut C)
theorem foldl_mem {ws : List Str} {f : Str → Str → Str} (kw : KW ws f) : ∀ (row : List Str) (x : Str), x ∈ ws → (∀ y ∈ row, y ∈ ws) → row.foldl f x ∈ ws
  | [], x, hx, _ => hx
  | y :: row, x, hx, h => foldl_mem kw row (f x y) (kw.cl _ _ hx (h y List.mem_cons_self)) fun z hz => h z (List.mem_cons_of_mem _ hz)
end
end KT
set_option Elab.async false
set_option linter.all false
set_option maxRecDepth 100000
set_option maxHeartbeats 4000000
namespace KT
open PySem L2 PyProof.Rows DTp TxS
section
variable {P : Program} {w : World} {K : PySem.W.Frag} {mg : Str → Option Value} {base : Heap} {C : Addr}
theorem KW.turn {ws : List Str} {f : Str → Str → Str} (k : KW ws f) : KW ws fun x y => f y x := ⟨k.asc, k.pos, k.few, k.wd, fun x y hx hy => k.cl y x hy hx, fun x y z hx hy hz => (k.as z y x hz hy hx).symm⟩
def spOpp (C : Addr) : Sp := fun vs H Q _ => ∃ (p : Addr) (ws : List Str) (f : Str → Str → Str), vs = [.ref p] ∧ KdAt C H p ws f ∧ ∀ (q : Addr) (H' : Hp), L2.Same H H' → H q = none → KdAt C H' q ws (fun x y => f y x) → Q (.ref q) H'
abbrev nOpp : List Str := ["kinds", "table", "one", "other"]
theorem scOpp : FnScope nOpp ["kinds"] (defScope pOpposite) := ⟨rfl, rfl, rfl, by decide +kernel, rfl, by decide +kernel, by decide +kernel⟩
theorem ok_opp {g : Addr} {fd : FuncData} (F : Fun K "opposite" "opposite" pOpposite g fd) (T : KTx K mg C) (M : PutC P w K mg base C) (N : KMk P w K mg base C) : FnOk P w K mg base CX0 6 g fd ["kinds"] (spOpp C) := by
  refine F.ok scOpp (fun vs H Q E h => ?_) (fun cdv A outer s H vs Q E hr h => ?_)
  · obtain ⟨p, ws, f, rfl, _⟩ := h
    rfl
  · obtain ⟨p, ws, f, rfl, kd, k⟩ := h
    have nd := scOpp.nd
    refine ⟨_, pss_cons (ps_expr (pe_c M.chk hr rfl (pa_cons (pv 0) pa_nil)))
      (pss_cons (ps_set (i := 1) nd rfl (Or.inr rfl) (pe_m0 M.tab T.cl hr (pv 0)))
      (pss_one (ps_ret (pe_kinds N T.mgC hr rfl (pa_cons (pe_lock (GC.pe_dcT (own := [("one", 2), ("other", 3)]) (g := gXY K 2 3) (tt := tYes) (tk := tTup (tCons (tVar 2) (tCons (tVar 3) tNil))) (tv := tGet2 (tVar 1) (tVar 3) (tVar 2)) (u0 hr.units) rfl nd (pi_keys (pv 1))
        (blkOk_by (own := [("one", 2), ("other", 3)]) (N := nOpp) (sc := defScope pOpposite) (by decide +kernel)) (fun _ _ _ _ _ => pg_tup rfl (pgs_cons (pg_name (i := 2) nd rfl (Or.inl rfl)) (pgs_cons (pg_name (i := 3) nd rfl (Or.inl rfl)) pgs_nil))) (fun _ _ _ _ _ => pts_nil) GC.cl0 trivial (fun _ _ _ _ _ => pe_tup (pa_cons (pv 2) (pa_cons (pv 3) pa_nil)))
        (fun _ _ _ _ _ => pe_dget (hu_of hr) (pv 1) (pe_tup (pa_cons (pv 3) (pa_cons (pv 2) pa_nil))) (fun _ _ => rfl)))) pa_nil))))), ?_⟩
    obtain ⟨dx, d, l, kd1⟩ := id kd
    have kw := kd1.kw
    refine ⟨_, rfl, p, ws, f, rfl, kd, ?_⟩
    refine ⟨_, rfl, p, dx, _, rfl, kd1.ob, flds_no _ _ (by decide +kernel) (by decide +kernel), p, ws, f, rfl, kd, fun q H1 s1 hq0 hq => ?_⟩
    refine at_name (σ' := [some (.ref p), some (.ref q), none, none]) rfl ?_
    dsimp only [tRet, tMake, tCons]
    refine dc_keys (te0 := tVar 1) (key := keyP) (key2 := keyP) (val := valW f) (val2 := valW fun x y => f y x) (is := pairsW ws) (tk := tTup (tCons (tVar 2) (tCons (tVar 3) tNil))) (tv := tGet2 (tVar 1) (tVar 3) (tVar 2)) (fun od R hh => ⟨_, rfl, hh⟩) hq rfl (by have := pairs16 kw; omega) ?_ ?_
    · rintro ⟨x, y⟩ t od H2 R Cn kc ha s2 ht kR
      obtain ⟨mx, my⟩ := mem_pairsW.mp ha
      have ht' : H2 t = some (.tup [.str x, .str y]) := ht
      have td : TabW H2 q ws f := ⟨_, .inr ⟨od, s2 _ _ upd_same⟩, tabW_tb kw.asc.nodup⟩
      refine ⟨t, _, rfl, SqT.of ht', rfl, _, _, rfl, at_name (σ' := [some (.ref p), some (.ref q), some (.str x), none]) rfl ⟨_, _, rfl, at_name (σ' := [some (.ref p), some (.ref q), some (.str x), some (.str y)]) rfl ⟨rfl, rfl, kc _ _ ?_⟩⟩⟩
      refine ⟨_, rfl, _, rfl, (by show 2 ≤ sizeLine; decide), fun b hb => ?_⟩
      have a1 := Same.new (H := H2) (o := .tup [.str x, .str y]) hb
      have a2 : upd H2 b (.tup [.str x, .str y]) b = _ := upd_same
      generalize upd H2 b (.tup [.str x, .str y]) = G at a1 a2 ⊢
      refine ⟨_, rfl, _, rfl, _, rfl, (by show 2 ≤ sizeLine; decide), fun b2 hb2 => ?_⟩
      have c1 := Same.new (H := G) (o := .tup [.str y, .str x]) hb2
      exact ⟨q, _, rfl, ((td.mono a1).mono c1).get my mx upd_same, kR b _ (fun c o e => c1 _ _ (a1 _ _ e)) (c1 _ _ a2)⟩
    · intro t H2 s2 ht0 ht
      rw [tabW_merge kw.asc.nodup] at ht
      refine mk_kinds ht (tabW_tb kw.asc.nodup) kw.turn fun x H3 kn3 s3 => ?_
      have kd3 := kn3.at
      obtain ⟨_, _, _, _, hx, _⟩ := id kn3
      have s13 : L2.Same H H2 := fun b o e => s2 _ _ (s1 _ _ e)
      exact k x H3 (fun b o e => s3 _ _ (s13 _ _ e)) (s13.free hx) kd3
def sqs (ws : List Str) (f : Str → Str → Str) : List Str := ws.filter fun x => decide (f x x = x)
def spOwnSq (C : Addr) : Sp := fun vs H Q _ => ∃ (p : Addr) (ws : List Str) (f : Str → Str → Str), vs = [.ref p] ∧ KdAt C H p ws f ∧ ∀ (q : Addr) (H' : Hp), L2.Same H H' → H q = none → H' q = some (.lst ((sqs ws f).map V.str)) → Q (.ref q) H'
abbrev nOwnSq : List Str := ["kinds", "kind"]
theorem scOwnSq : FnScope nOwnSq ["kinds"] (defScope pOwnSquares) := ⟨rfl, rfl, rfl, by decide +kernel, rfl, by decide +kernel, by decide +kernel⟩
theorem ok_ownSq {g : Addr} {fd : FuncData} (F : Fun K "own_squares" "own_squares" pOwnSquares g fd) (T : KTx K mg C) (M : PutC P w K mg base C) : FnOk P w K mg base CX0 5 g fd ["kinds"] (spOwnSq C) := by
  refine F.ok scOwnSq (fun vs H Q E h => ?_) (fun cdv A outer s H vs Q E hr h => ?_)
  · obtain ⟨p, ws, f, rfl, _⟩ := h
    rfl
  · obtain ⟨p, ws, f, rfl, kd, k⟩ := h
    have nd := scOwnSq.nd
    refine ⟨_, pss_cons (ps_expr (pe_c M.chk hr rfl (pa_cons (pv 0) pa_nil)))
      (pss_one (ps_ret (pe_lc (own := [("kind", 1)]) (g := gName 1) (tt := tTest (tOp rEq (tMeth C "put" (spKPut C) [] E0 (tVar 0) (tCons (tVar 1) (tCons (tVar 1) tNil))) (tVar 1))) (te := tVar 1) rfl nd (pi_list (pe_m0 M.wor T.cl hr (pv 0)))
        (blkOk_by (own := [("kind", 1)]) (N := nOwnSq) (sc := defScope pOwnSquares) (by decide +kernel)) (fun _ _ _ _ _ => pg_name (i := 1) nd rfl (Or.inl rfl)) (fun _ _ _ _ _ => pts_one (pt_cmpR op_eq (pe_m M.put T.cl hr (pv 0) (pa_cons (pv 1) (pa_cons (pv 1) pa_nil))) (pv 1) (nomark _))) (fun _ _ _ _ _ => pv 1)))), ?_⟩
    obtain ⟨dx, d, l, kd1⟩ := id kd
    have kw := kd1.kw
    refine ⟨_, rfl, p, ws, f, rfl, kd, ?_⟩
    refine ⟨_, rfl, p, dx, _, rfl, kd1.ob, flds_no _ _ (by decide +kernel) (by decide +kernel), p, ws, f, rfl, kd, fun q H1 s1 hq0 hq => ?_⟩
    refine ⟨q, rfl, ⟨_, SqL.of hq⟩, fun D hD => ?_⟩
    refine lc_it (walk_list (K := K) (a := q) (xs := ws.map V.str)) (fun i H' => L2.Same H1 H' ∧ H' D = some (.lst (((ws.take i).filter fun x => decide (f x x = x)).map V.str))) ?_ ?_ ?_ ?_
    · exact ⟨Same.new hD, upd_same⟩
    · rintro i H2 _ ⟨s2, _⟩
      exact SqL.of (s2 _ _ hq)
    · rintro i v H0 H2 hi ⟨s2, hD2⟩ ⟨rfl, hv⟩
      obtain ⟨x, ex, rfl⟩ := str_get hv
      have mx : x ∈ ws := List.mem_of_getElem? ex
      have kd2 : KdIn C H2 p dx d l ws f := ⟨s2 _ _ (s1 _ _ kd1.ob), s2 _ _ (s1 _ _ kd1.dc), s2 _ _ (s1 _ _ kd1.ls), kw⟩
      refine at_name (σ' := [some (.ref p), some (.str x)]) rfl ⟨rfl, ?_⟩
      refine ⟨_, rfl, p, dx, _, rfl, kd2.ob, flds_no _ _ (by decide +kernel) (by decide +kernel), _, rfl, _, rfl, p, ws, f, x, x, rfl, ⟨dx, d, l, kd2⟩, mx, mx, fun H3 s3 => ?_⟩
      refine ⟨_, rfl, rfl, _, rfl, ?_⟩
      have hD3 := s3 _ _ hD2
      have lenb : ((ws.take i).filter fun x => decide (f x x = x)).length ≤ 4 := Nat.le_trans (List.length_filter_le _ _) (by rw [List.length_take]; have := kw.few; omega)
      have dq : decide (V.str (f x x) = V.str x) = decide (f x x = x) := by
        by_cases z : f x x = x
        · rw [z]; simp
        · rw [decide_eq_false z, decide_eq_false]
          intro e
          injection e with e
          exact z e
      rw [dq, take_next' ex, List.filter_append]
      refine ite2 (fun hsq => ?_) (fun hsq => ?_)
      · refine ⟨_, rfl, _, hD3, ?_, fun c o e => ?_, ?_⟩
        · rw [List.length_map]
          exact small1000 (by omega)
        · rw [upd_ne (ne_of_none e hD)]
          exact s3 _ _ (s2 _ _ e)
        · have e1 : List.filter (fun x => decide (f x x = x)) [x] = [x] := List.filter_cons_of_pos (p := fun x => decide (f x x = x)) (l := []) hsq
          rw [e1, List.map_append]
          exact upd_same
      · have e1 : List.filter (fun x => decide (f x x = x)) [x] = [] := List.filter_cons_of_neg (p := fun x => decide (f x x = x)) (l := []) hsq
        rw [e1, List.append_nil]
        exact ⟨fun c o e => s3 _ _ (s2 _ _ e), hD3⟩
    · rintro H2 ⟨s2, hD2⟩
      rw [List.length_map, List.take_length] at hD2
      exact k D H2 (fun c o e => s2 _ _ (s1 _ _ e)) (s1.free hD) hD2
end
end KT
set_option Elab.async false
set_option linter.all false
set_option maxRecDepth 100000
set_option maxHeartbeats 4000000
namespace KT
open PySem L2 PyProof.Rows DTp TxS
def Flat2 (v w : V) : Prop := (∃ x, v = .str x ∧ w = .str x) ∨ (∃ i, v = .int i ∧ w = .int i) ∨ (∃ b, v = .bl b ∧ w = .bl b) ∨ (v = .non ∧ w = .non)
/-- both are read as the same, at most n deep -/
def Alike : Nat → Hp → V → V → Prop
  | 0, _, _, _ => False
  | n + 1, H, v, w => Flat2 v w ∨ (∃ (a b : Addr) (xs ys : List V), v = .ref a ∧ w = .ref b ∧ H a = some (.lst xs) ∧ H b = some (.lst ys) ∧ xs.length ≤ 100 ∧ Paired (Alike n H) xs ys) ∨
    (∃ (a b : Addr) (xs ys : List V), v = .ref a ∧ w = .ref b ∧ H a = some (.tup xs) ∧ H b = some (.tup ys) ∧ xs.length ≤ 100 ∧ Paired (Alike n H) xs ys) ∨
    (∃ (a b : Addr) (ps : List (Str × Str)) (f : Str → Str → Str), 3 ≤ n ∧ v = .ref a ∧ w = .ref b ∧ H a = some (.dT (ps.map fun p => (keyP p, valW f p))) ∧ H b = some (.dT (ps.map fun p => (keyP p, valW f p))) ∧ ps.Nodup ∧ ps.length ≤ 100) ∨
    ∃ (a b : Addr) (kvs : List (Key × V)) (ks : List Str), 2 ≤ n ∧ v = .ref a ∧ w = .ref b ∧ H a = some (.dK kvs) ∧ H b = some (.dK kvs) ∧ kvs.map (·.1) = ks.map Sum.inr ∧ ks.Nodup ∧ (∀ p ∈ kvs, Flat2 p.2 p.2) ∧ ks.length ≤ 100
theorem Alike.mono {H H' : Hp} (s : L2.Same H H') : ∀ {n : Nat} {v w : V}, Alike n H v w → Alike n H' v w
  | 0, _, _, h => h
  | n + 1, _, _, h => by
    rcases h with h | ⟨a, b, xs, ys, e1, e2, h1, h2, l, p⟩ | ⟨a, b, xs, ys, e1, e2, h1, h2, l, p⟩ | ⟨a, b, ps, f, n3, e1, e2, h1, h2, nd, l⟩ | ⟨a, b, kvs, ks, n2, e1, e2, h1, h2, ek, nd, fl, l⟩
    · exact .inl h
    · exact .inr (.inl ⟨a, b, xs, ys, e1, e2, s _ _ h1, s _ _ h2, l, Paired.mapP p fun _ _ q => Alike.mono s q⟩)
    · exact .inr (.inr (.inl ⟨a, b, xs, ys, e1, e2, s _ _ h1, s _ _ h2, l, Paired.mapP p fun _ _ q => Alike.mono s q⟩))
    · exact .inr (.inr (.inr (.inl ⟨a, b, ps, f, n3, e1, e2, s _ _ h1, s _ _ h2, nd, l⟩)))
    · exact .inr (.inr (.inr (.inr ⟨a, b, kvs, ks, n2, e1, e2, s _ _ h1, s _ _ h2, ek, nd, fl, l⟩)))
theorem paired_nth {α β : Type} {R : α → β → Prop} : ∀ {xs : List α} {ys : List β}, Paired R xs ys → ∀ (i : Nat) (x : α) (y : β), xs[i]? = some x → ys[i]? = some y → R x y
  | _, _, .nil, i, x, y, h, _ => by cases i <;> cases h
  | _, _, .cons r t, i, x, y, h, k => by
    cases i with
    | zero => cases h; cases k; exact r
    | succ i => exact paired_nth t i x y h k
def tOder (t1 t2 : TE) : TE := fun σ H Q => t1 σ H Q ∨ t2 σ H Q
theorem PE.oder {X : Cx} {e : Expr} {t1 t2 : TE} (a : PE X e t1) (b : PE X e t2) : PE X e (tOder t1 t2) := ⟨fun pins s σ H Q I h => h.elim (a.run pins s σ H Q I) (b.run pins s σ H Q I)⟩
def spExact (n : Nat) : Sp := fun vs H Q _ => ∃ v w : V, vs = [v, w] ∧ Alike n H v w ∧ ∀ H', L2.Same H H' → Q (.bl true) H'
abbrev nExact : List Str := ["_law_mine", "_law_theirs", "_law_alike", "_law_a", "_law_b", "_law_key"]
theorem scExact : FnScope nExact ["_law_mine", "_law_theirs"] (defScope sExact) := ⟨rfl, rfl, rfl, by decide +kernel, rfl, by decide +kernel, by decide +kernel⟩
theorem walk_zipT {K : PySem.W.Frag} {a b : Addr} {xs ys : List V} {n : Nat} (hn : n = min xs.length ys.length) : Walk (RZ.ItzT K a b) n (fun H => SqT K H a xs ∧ SqT K H b ys) (YPair (fun i => xs[i]?) (fun i => ys[i]?)) := by
  subst hn
  refine ⟨fun i _ hi q => ?_, fun _ q => ⟨xs, ys, q.1, q.2, by omega⟩, fun i H v H' _ q y => ?_⟩
  · have h1 : i < xs.length := by omega
    have h2 : i < ys.length := by omega
    exact ⟨xs, ys, xs[i], ys[i], q.1, q.2, by simp [h1], by simp [h2]⟩
  · obtain ⟨T, x, z, h1, h2, h3, h4, h5⟩ := y
    exact ⟨T, x, z, h1, h2, h3, h4 xs q.1, h5 ys q.2⟩
theorem kit2F {K : PySem.W.Frag} {t : String} (h1 : kitB t "list" = some false) (h2 : kitB t "tuple" = some false) : PySem.W.kitAny K (.type t) [.type "list", .type "tuple"] = some false :=
  kitAny_cons (kit_ty h1) (fun _ => kitAny_cons (kit_ty h2) (fun _ => kitAny_nil) fun e => by cases e) fun e => by cases e
theorem kit2L {K : PySem.W.Frag} : PySem.W.kitAny K (.type "list") [.type "list", .type "tuple"] = some true :=
  kitAny_cons (b := true) (kit_ty (by decide +kernel)) (fun e => by cases e) fun _ => rfl
theorem kit2T {K : PySem.W.Frag} : PySem.W.kitAny K (.type "tuple") [.type "list", .type "tuple"] = some true :=
  kitAny_cons (b := false) (kit_ty (by decide +kernel)) (fun _ => kitAny_cons (b := true) (kit_ty (by decide +kernel)) (fun e => by cases e) fun _ => rfl) fun e => by cases e
theorem two_cls : Paired ClsV [.ty "list", .ty "tuple"] [.type "list", .type "tuple"] := .cons (.ty _) (.cons (.ty _) .nil)
theorem bl_eq (b : Bool) : decide (V.bl b = V.bl b) = true := decide_eq_true rfl
section
variable {P : Program} {w : World} {K : PySem.W.Frag} {mg : Str → Option Value} {base : Heap}
theorem step_exact {f : Addr} {fd : FuncData} (F : Fun K "_law_exact" "_law_exact" sExact f fd) (B : Blt mg) (Z : Blp mg) (hz : mg "zip" = none) {n : Nat} (C : Cee P w K mg base (n + 1) "_law_exact" ["_law_mine", "_law_theirs"] (spExact n)) : FnOk P w K mg base CX0 (n + 2) f fd ["_law_mine", "_law_theirs"] (spExact (n + 1)) := by
  refine F.ok scExact (fun vs H Q E h => ?_) (fun cdv A outer s H vs Q E hr h => ?_)
  · obtain ⟨v, w2, rfl, _⟩ := h
    rfl
  · obtain ⟨v, w2, rfl, al, k⟩ := h
    have nd := scExact.nd
    refine ⟨_, pss_cons (ps_if (pt_val (pe_callB call_isiT (by rfl) Z.isi boot_isi (pa_cons (pv 0) (pa_cons (pe_tup (pa_cons (pe_bltn (v := .ty "list") (by rfl) Z.list (by decide +kernel) rfl) (pa_cons (pe_bltn (v := .ty "tuple") (by rfl) Z.tuple (by decide +kernel) rfl) pa_nil))) pa_nil))))
        (pss_cons (ps_set (i := 2) nd rfl (Or.inl rfl) (pe_and (pe_cmpR op_eq (pe_callB call_isi (by rfl) Z.isi boot_isi (pa_cons (pv 1) (pa_cons (pe_bltn (v := .ty "list") (by rfl) Z.list (by decide +kernel) rfl) pa_nil))) (pe_callB call_isi (by rfl) Z.isi boot_isi (pa_cons (pv 0) (pa_cons (pe_bltn (v := .ty "list") (by rfl) Z.list (by decide +kernel) rfl) pa_nil))) (nomark _)) (pe_one (pe_cmpR op_eq (pe_callB call_isi (by rfl) Z.isi boot_isi (pa_cons (pv 1) (pa_cons (pe_bltn (v := .ty "tuple") (by rfl) Z.tuple (by decide +kernel) rfl) pa_nil))) (pe_callB call_isi (by rfl) Z.isi boot_isi (pa_cons (pv 0) (pa_cons (pe_bltn (v := .ty "tuple") (by rfl) Z.tuple (by decide +kernel) rfl) pa_nil))) (nomark _)))))
        (pss_one (ps_ret (pe_and (pv 2) (pe_and (pe_cmpR op_eq (pe_callB call_len_seq (by rfl) B.len PySem.boot_len (pa_cons (pv 0) pa_nil)) (pe_callB call_len_seq (by rfl) B.len PySem.boot_len (pa_cons (pv 1) pa_nil)) (nomark _)) (pe_one (pe_callB (cr_all rfl) (by rfl) Z.all (by decide +kernel) (pa_cons
          (pe_lc (own := [("_law_a", 3), ("_law_b", 4)]) (g := gXY K 3 4) (tt := tYes) (te := tCall (spExact n) [] E0 (tCons (tVar 3) (tCons (tVar 4) tNil))) rfl nd (RZ.pi_zipA (by rfl) hz (pa_cons (pv 0) (pa_cons (pv 1) pa_nil))) (blkOk_by (own := [("_law_a", 3), ("_law_b", 4)]) (N := nExact) (sc := defScope sExact) (by decide +kernel))
            (fun _ _ _ _ _ => pg_tup rfl (pgs_cons (pg_name (i := 3) nd rfl (Or.inl rfl)) (pgs_cons (pg_name (i := 4) nd rfl (Or.inl rfl)) pgs_nil))) (fun _ _ _ _ _ => pts_nil) (fun _ _ _ _ _ => pe_c C hr rfl (pa_cons (pv 3) (pa_cons (pv 4) pa_nil)) (Nat.le_refl _))) pa_nil)))))))) pss_nil)
      (pss_cons (ps_if (pt_val (pe_callB call_isi (by rfl) Z.isi boot_isi (pa_cons (pv 0) (pa_cons (pe_bltn (v := .ty "dict") (by rfl) Z.dict (by decide +kernel) rfl) pa_nil))))
        (pss_cons (ps_set (i := 2) nd rfl (Or.inl rfl) (pe_and (pe_callB call_isi (by rfl) Z.isi boot_isi (pa_cons (pv 1) (pa_cons (pe_bltn (v := .ty "dict") (by rfl) Z.dict (by decide +kernel) rfl) pa_nil))) (pe_one (pe_c C hr rfl (pa_cons (PE.oder (pe_callTy (call_list_dT rfl) (by rfl) Z.list (by decide +kernel) (pa_cons (pv 0) pa_nil)) (pe_callTy (call_list_dK rfl) (by rfl) Z.list (by decide +kernel) (pa_cons (pv 0) pa_nil))) (pa_cons (PE.oder (pe_callTy (call_list_dT rfl) (by rfl) Z.list (by decide +kernel) (pa_cons (pv 1) pa_nil)) (pe_callTy (call_list_dK rfl) (by rfl) Z.list (by decide +kernel) (pa_cons (pv 1) pa_nil))) pa_nil)) (Nat.le_refl _)))))
        (pss_one (ps_ret (pe_and (pv 2) (pe_one (pe_callB (cr_all rfl) (by rfl) Z.all (by decide +kernel) (pa_cons (pe_lock
          (pe_lc (own := [("_law_key", 5)]) (g := gName 5) (tt := tYes) (te := tCall (spExact n) [] E0 (tCons (tDGet (tVar 0) (tVar 5)) (tCons (tDGet (tVar 1) (tVar 5)) tNil))) rfl nd (pi_keys (pv 0)) (blkOk_by (own := [("_law_key", 5)]) (N := nExact) (sc := defScope sExact) (by decide +kernel))
            (fun _ _ _ _ _ => pg_name (i := 5) nd rfl (Or.inl rfl)) (fun _ _ _ _ _ => pts_nil) (fun _ _ _ _ _ => pe_c C hr rfl (pa_cons (pe_dget (hu_of hr) (pv 0) (pv 5) (fun _ _ => rfl)) (pa_cons (pe_dget (hu_of hr) (pv 1) (pv 5) (fun _ _ => rfl)) pa_nil)) (Nat.le_refl _)))) pa_nil))))))) pss_nil)
      (pss_cons (ps_set (i := 2) nd rfl (Or.inl rfl) (pe_cmpR op_eq (pe_callB call_isi (by rfl) Z.isi boot_isi (pa_cons (pv 0) (pa_cons (pe_bltn (v := .ty "int") (by rfl) B.int boot_int rfl) pa_nil))) (pe_callB call_isi (by rfl) Z.isi boot_isi (pa_cons (pv 1) (pa_cons (pe_bltn (v := .ty "int") (by rfl) B.int boot_int rfl) pa_nil))) (nomark _)))
      (pss_one (ps_ret (pe_and (pv 2) (pe_and (pe_cmpR op_eq (pe_callB call_isi (by rfl) Z.isi boot_isi (pa_cons (pv 0) (pa_cons (pe_bltn (v := .ty "bool") (by rfl) Z.bool (by decide +kernel) rfl) pa_nil))) (pe_callB call_isi (by rfl) Z.isi boot_isi (pa_cons (pv 1) (pa_cons (pe_bltn (v := .ty "bool") (by rfl) Z.bool (by decide +kernel) rfl) pa_nil))) (nomark _)) (pe_one (pe_cmpR op_eq (pv 0) (pv 1) (nomark _))))))))), ?_⟩
    rcases al with (⟨x, rfl, rfl⟩ | ⟨i, rfl, rfl⟩ | ⟨b, rfl, rfl⟩ | ⟨rfl, rfl⟩) | ⟨a, b, xs, ys, rfl, rfl, ha, hb, hl, pr⟩ | ⟨a, b, xs, ys, rfl, rfl, ha, hb, hl, pr⟩ | ⟨a, b, ps, f, n3, rfl, rfl, ha, hb, ndp, hl⟩ | ⟨a, b, kvs, ks, n2, rfl, rfl, ha, hb, ek, ndk, fl, hl⟩
    · skip
      refine ⟨_, rfl, (by show 2 ≤ sizeLine; decide), fun tp htp => ?_⟩
      have s1 := Same.new (H := H) (o := .tup [.ty "list", .ty "tuple"]) htp
      have etp : upd H tp (.tup [.ty "list", .ty "tuple"]) tp = _ := upd_same
      generalize upd H tp (.tup [.ty "list", .ty "tuple"]) = G at s1 etp ⊢
      refine ⟨_, tp, _, _, _, false, rfl, etp, two_cls, .base (.str _), kit2F (by decide +kernel) (by decide +kernel), _, rfl, iteF ?_⟩
      refine ⟨_, rfl, _, _, _, _, false, rfl, .ty _, .base (.str _), kit_ty (by decide +kernel), _, rfl, iteF ?_⟩
      refine ⟨_, rfl, _, _, _, _, false, rfl, .ty _, .base (.str _), kit_ty (by decide +kernel), _, rfl, _, _, _, _, false, rfl, .ty _, .base (.str _), kit_ty (by decide +kernel), rfl, ?_⟩
      rw [bl_eq]
      refine at_name (σ' := [some (.str x), some (.str x), some (.bl true), none, none, none]) rfl ?_
      refine ⟨_, rfl, _, rfl, iteT ?_⟩
      refine ⟨_, rfl, _, _, _, _, false, rfl, .ty _, .base (.str _), kit_ty (by decide +kernel), _, rfl, _, _, _, _, false, rfl, .ty _, .base (.str _), kit_ty (by decide +kernel), rfl, ?_⟩
      rw [bl_eq]
      refine ⟨_, rfl, iteT ⟨_, rfl, _, rfl, rfl, ?_⟩⟩
      rw [decide_eq_true rfl]
      exact k _ s1
    · skip
      refine ⟨_, rfl, (by show 2 ≤ sizeLine; decide), fun tp htp => ?_⟩
      have s1 := Same.new (H := H) (o := .tup [.ty "list", .ty "tuple"]) htp
      have etp : upd H tp (.tup [.ty "list", .ty "tuple"]) tp = _ := upd_same
      generalize upd H tp (.tup [.ty "list", .ty "tuple"]) = G at s1 etp ⊢
      refine ⟨_, tp, _, _, _, false, rfl, etp, two_cls, .base (.int _), kit2F (by decide +kernel) (by decide +kernel), _, rfl, iteF ?_⟩
      refine ⟨_, rfl, _, _, _, _, false, rfl, .ty _, .base (.int _), kit_ty (by decide +kernel), _, rfl, iteF ?_⟩
      refine ⟨_, rfl, _, _, _, _, true, rfl, .ty _, .base (.int _), kit_ty (by decide +kernel), _, rfl, _, _, _, _, true, rfl, .ty _, .base (.int _), kit_ty (by decide +kernel), rfl, ?_⟩
      rw [bl_eq]
      refine at_name (σ' := [some (.int i), some (.int i), some (.bl true), none, none, none]) rfl ?_
      refine ⟨_, rfl, _, rfl, iteT ?_⟩
      refine ⟨_, rfl, _, _, _, _, false, rfl, .ty _, .base (.int _), kit_ty (by decide +kernel), _, rfl, _, _, _, _, false, rfl, .ty _, .base (.int _), kit_ty (by decide +kernel), rfl, ?_⟩
      rw [bl_eq]
      refine ⟨_, rfl, iteT ⟨_, rfl, _, rfl, rfl, ?_⟩⟩
      rw [decide_eq_true rfl]
      exact k _ s1
    · skip
      refine ⟨_, rfl, (by show 2 ≤ sizeLine; decide), fun tp htp => ?_⟩
      have s1 := Same.new (H := H) (o := .tup [.ty "list", .ty "tuple"]) htp
      have etp : upd H tp (.tup [.ty "list", .ty "tuple"]) tp = _ := upd_same
      generalize upd H tp (.tup [.ty "list", .ty "tuple"]) = G at s1 etp ⊢
      refine ⟨_, tp, _, _, _, false, rfl, etp, two_cls, .base (.bl _), kit2F (by decide +kernel) (by decide +kernel), _, rfl, iteF ?_⟩
      refine ⟨_, rfl, _, _, _, _, false, rfl, .ty _, .base (.bl _), kit_ty (by decide +kernel), _, rfl, iteF ?_⟩
      refine ⟨_, rfl, _, _, _, _, true, rfl, .ty _, .base (.bl _), kit_ty (by decide +kernel), _, rfl, _, _, _, _, true, rfl, .ty _, .base (.bl _), kit_ty (by decide +kernel), rfl, ?_⟩
      rw [bl_eq]
      refine at_name (σ' := [some (.bl b), some (.bl b), some (.bl true), none, none, none]) rfl ?_
      refine ⟨_, rfl, _, rfl, iteT ?_⟩
      refine ⟨_, rfl, _, _, _, _, true, rfl, .ty _, .base (.bl _), kit_ty (by decide +kernel), _, rfl, _, _, _, _, true, rfl, .ty _, .base (.bl _), kit_ty (by decide +kernel), rfl, ?_⟩
      rw [bl_eq]
      refine ⟨_, rfl, iteT ⟨_, rfl, _, rfl, rfl, ?_⟩⟩
      rw [decide_eq_true rfl]
      exact k _ s1
    · skip
      refine ⟨_, rfl, (by show 2 ≤ sizeLine; decide), fun tp htp => ?_⟩
      have s1 := Same.new (H := H) (o := .tup [.ty "list", .ty "tuple"]) htp
      have etp : upd H tp (.tup [.ty "list", .ty "tuple"]) tp = _ := upd_same
      generalize upd H tp (.tup [.ty "list", .ty "tuple"]) = G at s1 etp ⊢
      refine ⟨_, tp, _, _, _, false, rfl, etp, two_cls, .base .non, kit2F (by decide +kernel) (by decide +kernel), _, rfl, iteF ?_⟩
      refine ⟨_, rfl, _, _, _, _, false, rfl, .ty _, .base .non, kit_ty (by decide +kernel), _, rfl, iteF ?_⟩
      refine ⟨_, rfl, _, _, _, _, false, rfl, .ty _, .base .non, kit_ty (by decide +kernel), _, rfl, _, _, _, _, false, rfl, .ty _, .base .non, kit_ty (by decide +kernel), rfl, ?_⟩
      rw [bl_eq]
      refine at_name (σ' := [some .non, some .non, some (.bl true), none, none, none]) rfl ?_
      refine ⟨_, rfl, _, rfl, iteT ?_⟩
      refine ⟨_, rfl, _, _, _, _, false, rfl, .ty _, .base .non, kit_ty (by decide +kernel), _, rfl, _, _, _, _, false, rfl, .ty _, .base .non, kit_ty (by decide +kernel), rfl, ?_⟩
      rw [bl_eq]
      refine ⟨_, rfl, iteT ⟨_, rfl, _, rfl, rfl, ?_⟩⟩
      rw [decide_eq_true rfl]
      exact k _ s1
    · skip
      refine ⟨_, rfl, (by show 2 ≤ sizeLine; decide), fun tp htp => ?_⟩
      have s1 := Same.new (H := H) (o := .tup [.ty "list", .ty "tuple"]) htp
      have etp : upd H tp (.tup [.ty "list", .ty "tuple"]) tp = _ := upd_same
      generalize upd H tp (.tup [.ty "list", .ty "tuple"]) = G at s1 etp ⊢
      refine ⟨_, tp, _, _, _, true, rfl, etp, two_cls, .base (.lst (s1 _ _ ha)), kit2L, _, rfl, iteT ?_⟩
      refine ⟨_, rfl, _, _, _, _, true, rfl, .ty _, .base (.lst (s1 _ _ hb)), kit_ty (by decide +kernel), _, rfl, _, _, _, _, true, rfl, .ty _, .base (.lst (s1 _ _ ha)), kit_ty (by decide +kernel), rfl, ?_⟩
      rw [bl_eq]
      refine ⟨_, rfl, iteT ?_⟩
      refine ⟨_, rfl, _, _, _, _, false, rfl, .ty _, .base (.lst (s1 _ _ hb)), kit_ty (by decide +kernel), _, rfl, _, _, _, _, false, rfl, .ty _, .base (.lst (s1 _ _ ha)), kit_ty (by decide +kernel), rfl, ?_⟩
      rw [bl_eq]
      refine at_name (σ' := [some (.ref a), some (.ref b), some (.bl true), none, none, none]) rfl ?_
      refine ⟨_, rfl, _, rfl, iteT ?_⟩
      refine ⟨_, rfl, a, _, rfl, .inl (SqL.of (s1 _ _ ha)), _, rfl, b, _, rfl, .inl (SqL.of (s1 _ _ hb)), rfl, ?_⟩
      have hlen := Paired.length pr
      rw [hlen, decide_eq_true rfl]
      refine ⟨_, rfl, iteT ?_⟩
      refine ⟨_, rfl, _, rfl, a, b, xs, ys, rfl, .inl ⟨SqL.of (s1 _ _ ha), SqL.of (s1 _ _ hb), fun D hD => ?_⟩⟩
      refine lc_true (walk_zip (K := K) (a := a) (b := b) (xs := xs) (ys := ys) rfl) (by omega) hD (fun H' s => ⟨SqL.of (s _ _ (s1 _ _ ha)), SqL.of (s _ _ (s1 _ _ hb))⟩) ?_ ?_
      · rintro i v H1 H2 R hi s2 ⟨T, x, y, rfl, hT, rfl, hx, hy⟩ kR
        have s3 := Same.new (H := H1) (o := .tup [x, y]) hT
        have alk : Alike n (upd H1 T (.tup [x, y])) x y := ((paired_nth pr i x y hx hy).mono s1 |>.mono s2).mono s3
        refine ⟨T, _, rfl, SqT.of upd_same, rfl, _, _, rfl, at_name (σ' := [some (.ref a), some (.ref b), some (.bl true), some x, none, none]) rfl ⟨_, _, rfl, at_name (σ' := [some (.ref a), some (.ref b), some (.bl true), some x, some y, none]) rfl ⟨rfl, rfl, ?_⟩⟩⟩
        exact ⟨_, rfl, _, rfl, x, y, rfl, alk, fun H3 s4 => kR _ fun c o e => s4 _ _ (s3 _ _ e)⟩
      · intro H1 s2 hD1
        refine ⟨D, _, rfl, SqL.of hD1, ?_⟩
        rw [all_true]
        exact k _ fun c o e => s2 _ _ (s1 _ _ e)
    · skip
      refine ⟨_, rfl, (by show 2 ≤ sizeLine; decide), fun tp htp => ?_⟩
      have s1 := Same.new (H := H) (o := .tup [.ty "list", .ty "tuple"]) htp
      have etp : upd H tp (.tup [.ty "list", .ty "tuple"]) tp = _ := upd_same
      generalize upd H tp (.tup [.ty "list", .ty "tuple"]) = G at s1 etp ⊢
      refine ⟨_, tp, _, _, _, true, rfl, etp, two_cls, .base (.tup (s1 _ _ ha)), kit2T, _, rfl, iteT ?_⟩
      refine ⟨_, rfl, _, _, _, _, false, rfl, .ty _, .base (.tup (s1 _ _ hb)), kit_ty (by decide +kernel), _, rfl, _, _, _, _, false, rfl, .ty _, .base (.tup (s1 _ _ ha)), kit_ty (by decide +kernel), rfl, ?_⟩
      rw [bl_eq]
      refine ⟨_, rfl, iteT ?_⟩
      refine ⟨_, rfl, _, _, _, _, true, rfl, .ty _, .base (.tup (s1 _ _ hb)), kit_ty (by decide +kernel), _, rfl, _, _, _, _, true, rfl, .ty _, .base (.tup (s1 _ _ ha)), kit_ty (by decide +kernel), rfl, ?_⟩
      rw [bl_eq]
      refine at_name (σ' := [some (.ref a), some (.ref b), some (.bl true), none, none, none]) rfl ?_
      refine ⟨_, rfl, _, rfl, iteT ?_⟩
      refine ⟨_, rfl, a, _, rfl, .inr (SqT.of (s1 _ _ ha)), _, rfl, b, _, rfl, .inr (SqT.of (s1 _ _ hb)), rfl, ?_⟩
      have hlen := Paired.length pr
      rw [hlen, decide_eq_true rfl]
      refine ⟨_, rfl, iteT ?_⟩
      refine ⟨_, rfl, _, rfl, a, b, xs, ys, rfl, .inr ⟨SqT.of (s1 _ _ ha), SqT.of (s1 _ _ hb), fun D hD => ?_⟩⟩
      refine lc_true (walk_zipT (K := K) (a := a) (b := b) (xs := xs) (ys := ys) rfl) (by omega) hD (fun H' s => ⟨SqT.of (s _ _ (s1 _ _ ha)), SqT.of (s _ _ (s1 _ _ hb))⟩) ?_ ?_
      · rintro i v H1 H2 R hi s2 ⟨T, x, y, rfl, hT, rfl, hx, hy⟩ kR
        have s3 := Same.new (H := H1) (o := .tup [x, y]) hT
        have alk : Alike n (upd H1 T (.tup [x, y])) x y := ((paired_nth pr i x y hx hy).mono s1 |>.mono s2).mono s3
        refine ⟨T, _, rfl, SqT.of upd_same, rfl, _, _, rfl, at_name (σ' := [some (.ref a), some (.ref b), some (.bl true), some x, none, none]) rfl ⟨_, _, rfl, at_name (σ' := [some (.ref a), some (.ref b), some (.bl true), some x, some y, none]) rfl ⟨rfl, rfl, ?_⟩⟩⟩
        exact ⟨_, rfl, _, rfl, x, y, rfl, alk, fun H3 s4 => kR _ fun c o e => s4 _ _ (s3 _ _ e)⟩
      · intro H1 s2 hD1
        refine ⟨D, _, rfl, SqL.of hD1, ?_⟩
        rw [all_true]
        exact k _ fun c o e => s2 _ _ (s1 _ _ e)
    · skip
      refine ⟨_, rfl, (by show 2 ≤ sizeLine; decide), fun tp htp => ?_⟩
      have s1 := Same.new (H := H) (o := .tup [.ty "list", .ty "tuple"]) htp
      have etp : upd H tp (.tup [.ty "list", .ty "tuple"]) tp = _ := upd_same
      generalize upd H tp (.tup [.ty "list", .ty "tuple"]) = G at s1 etp ⊢
      refine ⟨_, tp, _, _, _, false, rfl, etp, two_cls, .base (.dT (s1 _ _ ha)), kit2F (by decide +kernel) (by decide +kernel), _, rfl, iteF ?_⟩
      refine ⟨_, rfl, _, _, _, _, true, rfl, .ty _, .base (.dT (s1 _ _ ha)), kit_ty (by decide +kernel), _, rfl, iteT ?_⟩
      refine ⟨_, rfl, _, _, _, _, true, rfl, .ty _, .base (.dT (s1 _ _ hb)), kit_ty (by decide +kernel), _, rfl, iteT ?_⟩
      have ndk : ((ps.map fun p => (keyP p, valW f p)).map (·.1)).Nodup := by
        rw [List.map_map]
        exact List.Pairwise.map _ (fun a b hab e => hab (keyP_inj a b e)) ndp
      have hla : (ps.map fun p => (keyP p, valW f p)).length ≤ 100 := by rw [List.length_map]; exact hl
      have ha0 := s1 _ _ ha
      have hb0 := s1 _ _ hb
      obtain ⟨kvs, ek⟩ : ∃ z, z = ps.map fun p => (keyP p, valW f p) := ⟨_, rfl⟩
      rw [← ek] at ndk hla ha0 hb0
      refine .inl ⟨_, rfl, a, kvs, rfl, .inl ha0, fun l1 bs1 hl1 ik1 => ?_⟩
      have c1 := Same.new (H := G) (o := .lst (bs1.map V.ref)) hl1
      have c2 : upd G l1 (.lst (bs1.map V.ref)) l1 = _ := upd_same
      have ik1' : Paired (fun p b => (upd G l1 (.lst (bs1.map V.ref))) b = some (.tup (p.1.map kV))) kvs bs1 := Paired.mapP ik1 fun _ _ q => c1 _ _ q
      generalize upd G l1 (.lst (bs1.map V.ref)) = G1 at c1 c2 ik1' ⊢
      refine .inl ⟨_, rfl, b, kvs, rfl, .inl (c1 _ _ hb0), fun l2 bs2 hl2 ik2 => ?_⟩
      have d1 := Same.new (H := G1) (o := .lst (bs2.map V.ref)) hl2
      have d2 : upd G1 l2 (.lst (bs2.map V.ref)) l2 = _ := upd_same
      have ik2' : Paired (fun p b => (upd G1 l2 (.lst (bs2.map V.ref))) b = some (.tup (p.1.map kV))) kvs bs2 := Paired.mapP ik2 fun _ _ q => d1 _ _ q
      have ik1'' : Paired (fun p b => (upd G1 l2 (.lst (bs2.map V.ref))) b = some (.tup (p.1.map kV))) kvs bs1 := Paired.mapP ik1' fun _ _ q => d1 _ _ q
      generalize upd G1 l2 (.lst (bs2.map V.ref)) = G2 at d1 d2 ik2' ik1'' ⊢
      obtain ⟨m, rfl⟩ : ∃ m, n = m + 3 := ⟨n - 3, by omega⟩
      have len1 : kvs.length = bs1.length := Paired.length ik1''
      have len2 : kvs.length = bs2.length := Paired.length ik2'
      have alk : Alike (m + 3) G2 (.ref l1) (.ref l2) := by
        refine .inr (.inl ⟨l1, l2, _, _, rfl, rfl, d1 _ _ c2, d2, by rw [List.length_map]; omega, ?_⟩)
        refine paired_of (by rw [List.length_map, List.length_map]; omega) fun i x y hx hy => ?_
        rw [List.getElem?_map] at hx hy
        cases e1 : bs1[i]? with
        | none => rw [e1] at hx; cases hx
        | some b1 =>
          cases e2 : bs2[i]? with
          | none => rw [e2] at hy; cases hy
          | some b2 =>
            rw [e1] at hx
            rw [e2] at hy
            obtain rfl : V.ref b1 = x := Option.some.inj hx
            obtain rfl : V.ref b2 = y := Option.some.inj hy
            have hi : i < kvs.length := by
              have := (List.getElem?_eq_some_iff.mp e1).1
              omega
            obtain ⟨kv, ekv⟩ : ∃ kv, kvs[i]? = some kv := ⟨kvs[i], List.getElem?_eq_getElem hi⟩
            have t1 : G2 b1 = some (.tup (kv.1.map kV)) := paired_nth ik1'' i _ _ ekv e1
            have t2 : G2 b2 = some (.tup (kv.1.map kV)) := paired_nth ik2' i _ _ ekv e2
            obtain ⟨p, hp⟩ : ∃ p, kv.1 = keyP p := by
              have m := List.mem_of_getElem? ekv
              rw [ek] at m
              obtain ⟨p, _, e⟩ := List.mem_map.mp m
              exact ⟨p, (congrArg Prod.fst e).symm⟩
            rw [hp] at t1 t2
            exact .inr (.inr (.inl ⟨b1, b2, _, _, rfl, rfl, t1, t2, (by show 2 ≤ 100; decide), .cons (.inl (.inl ⟨_, rfl, rfl⟩)) (.cons (.inl (.inl ⟨_, rfl, rfl⟩)) .nil)⟩))
      refine ⟨.ref l1, .ref l2, rfl, alk, fun H2 s2 => ?_⟩
      refine at_name (σ' := [some (.ref a), some (.ref b), some (.bl true), none, none, none]) rfl ?_
      refine ⟨_, rfl, _, rfl, iteT ?_⟩
      have s02 : L2.Same H H2 := fun c o e => s2 _ _ (d1 _ _ (c1 _ _ (s1 _ _ e)))
      have ha2 : H2 a = some (.dT kvs) := s2 _ _ (d1 _ _ (c1 _ _ ha0))
      have hb2 : H2 b = some (.dT kvs) := s2 _ _ (d1 _ _ (c1 _ _ hb0))
      refine ⟨a, .dT kvs, ha2, trivial, fun od => ?_⟩
      refine ⟨_, rfl, a, od, rfl, .inr ⟨kvs, upd_same, fun D hD => ?_⟩⟩
      have nDa : D ≠ a := fun e => by rw [e, upd_same] at hD; cases hD
      refine lc_true walk_keysT (by omega) hD (fun H' s => s _ _ upd_same) ?_ ?_
      · rintro j x H0 H1 R hj s3 ⟨rfl, kk, v, q, hk, rfl, hq⟩ kR
        have hv : valV kvs kk = some v := valV_mem ndk (List.mem_of_getElem? hk)
        obtain ⟨z, rfl⟩ : ∃ z, v = .str z := by
          have m := List.mem_of_getElem? hk
          rw [ek] at m
          obtain ⟨p, _, e⟩ := List.mem_map.mp m
          exact ⟨f p.1 p.2, (congrArg Prod.snd e).symm⟩
        have ga : DGet H1 a (.ref q) (some (.str z)) := .inr ⟨kvs, kk, q, .inr ⟨od, s3 _ _ upd_same⟩, rfl, hq, hv.symm⟩
        have gb : DGet H1 b (.ref q) (some (.str z)) := by
          refine .inr ⟨kvs, kk, q, ?_, rfl, hq, hv.symm⟩
          by_cases e : b = a
          · rw [e]; exact .inr ⟨od, s3 _ _ upd_same⟩
          · exact .inl (s3 _ _ ((upd_ne e).trans hb2))
        refine at_name (σ' := [some (.ref a), some (.ref b), some (.bl true), none, none, some (.ref q)]) rfl ⟨rfl, ?_⟩
        exact ⟨_, rfl, _, rfl, a, _, rfl, ga, _, rfl, _, rfl, b, _, rfl, gb, .str z, .str z, rfl, .inl (.inl ⟨z, rfl, rfl⟩), kR⟩
      · intro H1 s3 hD1
        refine ⟨s3 _ _ upd_same, D, _, rfl, SqL.of ((upd_ne nDa).trans hD1), ?_⟩
        rw [all_true]
        refine k _ fun c o e => ?_
        by_cases hc : c = a
        · rw [hc] at e ⊢
          have := s02 _ _ e
          rw [ha2] at this
          rw [upd_same]; exact this
        · rw [upd_ne hc]
          exact s3 _ _ ((upd_ne hc).trans (s02 _ _ e))
    · skip
      refine ⟨_, rfl, (by show 2 ≤ sizeLine; decide), fun tp htp => ?_⟩
      have s1 := Same.new (H := H) (o := .tup [.ty "list", .ty "tuple"]) htp
      have etp : upd H tp (.tup [.ty "list", .ty "tuple"]) tp = _ := upd_same
      generalize upd H tp (.tup [.ty "list", .ty "tuple"]) = G at s1 etp ⊢
      refine ⟨_, tp, _, _, _, false, rfl, etp, two_cls, .base (.dK (s1 _ _ ha)), kit2F (by decide +kernel) (by decide +kernel), _, rfl, iteF ?_⟩
      refine ⟨_, rfl, _, _, _, _, true, rfl, .ty _, .base (.dK (s1 _ _ ha)), kit_ty (by decide +kernel), _, rfl, iteT ?_⟩
      refine ⟨_, rfl, _, _, _, _, true, rfl, .ty _, .base (.dK (s1 _ _ hb)), kit_ty (by decide +kernel), _, rfl, iteT ?_⟩
      have ekV : (kvs.map fun kv => kV kv.1) = ks.map V.str := by
        have e := congrArg (List.map kV) ek
        rw [List.map_map, List.map_map] at e
        exact e
      have lk : kvs.length = ks.length := by have := congrArg List.length ek; rw [List.length_map, List.length_map] at this; exact this
      have ndk2 : (kvs.map (·.1)).Nodup := by
        rw [ek]
        exact List.pairwise_map.mpr (List.Pairwise.imp (fun {a b} (ne : a ≠ b) e => ne (Sum.inr.inj e)) ndk)
      refine .inr ⟨_, rfl, a, kvs, rfl, s1 _ _ ha, fun l1 hl1 => ?_⟩
      rw [ekV]
      have c1 := Same.new (H := G) (o := .lst (ks.map V.str)) hl1
      have c2 : upd G l1 (.lst (ks.map V.str)) l1 = _ := upd_same
      generalize upd G l1 (.lst (ks.map V.str)) = G1 at c1 c2 ⊢
      refine .inr ⟨_, rfl, b, kvs, rfl, c1 _ _ (s1 _ _ hb), fun l2 hl2 => ?_⟩
      rw [ekV]
      have d1 := Same.new (H := G1) (o := .lst (ks.map V.str)) hl2
      have d2 : upd G1 l2 (.lst (ks.map V.str)) l2 = _ := upd_same
      generalize upd G1 l2 (.lst (ks.map V.str)) = G2 at d1 d2 ⊢
      obtain ⟨m, rfl⟩ : ∃ m, n = m + 2 := ⟨n - 2, by omega⟩
      have alk : Alike (m + 2) G2 (.ref l1) (.ref l2) := by
        refine .inr (.inl ⟨l1, l2, _, _, rfl, rfl, d1 _ _ c2, d2, by rw [List.length_map]; exact hl, ?_⟩)
        refine paired_of rfl fun i x y hx hy => ?_
        rw [hx] at hy
        obtain rfl := Option.some.inj hy
        obtain ⟨z, _, rfl⟩ := str_get hx
        exact .inl (.inl ⟨z, rfl, rfl⟩)
      refine ⟨.ref l1, .ref l2, rfl, alk, fun H2 s2 => ?_⟩
      refine at_name (σ' := [some (.ref a), some (.ref b), some (.bl true), none, none, none]) rfl ?_
      refine ⟨_, rfl, _, rfl, iteT ?_⟩
      have s02 : L2.Same H H2 := fun c o e => s2 _ _ (d1 _ _ (c1 _ _ (s1 _ _ e)))
      have ha2 : H2 a = some (.dK kvs) := s02 _ _ ha
      have hb2 : H2 b = some (.dK kvs) := s02 _ _ hb
      refine ⟨a, .dK kvs, ha2, trivial, fun od => ?_⟩
      refine ⟨_, rfl, a, od, rfl, .inl ⟨kvs, upd_same, fun D hD => ?_⟩⟩
      have nDa : D ≠ a := fun e => by rw [e, upd_same] at hD; cases hD
      refine lc_true walk_keys (by omega) hD (fun H' s => s _ _ upd_same) ?_ ?_
      · rintro j x H0 H1 R hj s3 ⟨rfl, kk, v, hk, rfl⟩ kR
        have hv : valV kvs kk = some v := valV_mem ndk2 (List.mem_of_getElem? hk)
        have ga : DGet H1 a (kV kk) (some v) := .inl ⟨kvs, kk, .inr ⟨od, s3 _ _ upd_same⟩, rfl, hv.symm⟩
        have gb : DGet H1 b (kV kk) (some v) := by
          refine .inl ⟨kvs, kk, ?_, rfl, hv.symm⟩
          by_cases e : b = a
          · rw [e]; exact .inr ⟨od, s3 _ _ upd_same⟩
          · exact .inl (s3 _ _ ((upd_ne e).trans hb2))
        refine at_name (σ' := [some (.ref a), some (.ref b), some (.bl true), none, none, some (kV kk)]) rfl ⟨rfl, ?_⟩
        exact ⟨_, rfl, _, rfl, a, _, rfl, ga, _, rfl, _, rfl, b, _, rfl, gb, v, v, rfl, .inl (fl _ (List.mem_of_getElem? hk)), kR⟩
      · intro H1 s3 hD1
        refine ⟨s3 _ _ upd_same, D, _, rfl, SqL.of ((upd_ne nDa).trans hD1), ?_⟩
        rw [all_true]
        refine k _ fun c o e => ?_
        by_cases hc : c = a
        · rw [hc] at e ⊢
          have := s02 _ _ e
          rw [ha2] at this
          rw [upd_same]; exact this
        · rw [upd_ne hc]
          exact s3 _ _ ((upd_ne hc).trans (s02 _ _ e))
theorem ok_exact {f : Addr} {fd : FuncData} (F : Fun K "_law_exact" "_law_exact" sExact f fd) (B : Blt mg) (Z : Blp mg) (hz : mg "zip" = none) (me : mg "_law_exact" = some (.ref f)) (kp : PySem.W.keepIn K (.ref f) = true) (hb : Binds K fd ["_law_mine", "_law_theirs"] []) : ∀ n, FnOk P w K mg base CX0 (n + 1) f fd ["_law_mine", "_law_theirs"] (spExact n)
  | 0 => by
    refine F.ok scExact (fun vs H Q E h => ?_) (fun cdv A outer s H vs Q E hr h => ?_)
    · obtain ⟨v, w2, rfl, _⟩ := h
      rfl
    · obtain ⟨v, w2, rfl, al, k⟩ := h
      exact al.elim
  | n + 1 => step_exact F B Z hz ⟨f, fd, ok_exact F B Z hz me kp hb n, me, kp, hb⟩
end
end KT
set_option Elab.async false
set_option linter.all false
set_option maxRecDepth 100000
set_option maxHeartbeats 4000000
namespace KT
open PySem L2 PyProof.Rows DTp TxS
/-- stands whatever happens to a thing that is no tuple -/
def StabF (F : Nat → V → Hp → Prop) : Prop := ∀ (D : Addr) (o : HO) (i : Nat) (y : V) (H H' : Hp), H D = some o → (∀ ys, o ≠ .tup ys) → But D H H' → F i y H → F i y H'
theorem StabF.val (v : Nat → V) : StabF fun i y _ => y = v i := fun _ _ _ _ _ _ _ _ _ h => h
theorem StabF.tup (f : Nat → List V → Prop) : StabF fun i y H => ∃ t xs, y = .ref t ∧ H t = some (.tup xs) ∧ f i xs := fun D o i y H H' hD no bt ⟨t, xs, e, ht, q⟩ =>
  ⟨t, xs, e, bt t _ (fun z => by rw [z, hD] at ht; exact no xs (Option.some.inj ht)) ht, q⟩
section
variable {J : It} {n : Nat} {G : Hp → Prop} {Y : Nat → Hp → V → Hp → Prop}
theorem lc_each (W : Walk J n G Y) {g : TG} {te : TE} {vs : List Nat} {σ : L2.St} {H1 : Hp} {D : Addr} {Qd : Hp → Prop} (F : Nat → V → Hp → Prop) (st : StabF F) (few : n ≤ 1000) (hD : H1 D = none) (stay : ∀ H', L2.Same H1 H' → G H')
    (step : ∀ i x H H' (R : VK), i < n → L2.Same H1 H → Y i H x H' → (∀ y H3, L2.Same H H3 → F i y H3 → R y H3) → g x (wipe σ vs) H' fun σ2 H2 => wipe σ2 vs = wipe σ vs ∧ te σ2 H2 R)
    (done : ∀ H' ys, L2.Same H1 H' → H' D = some (.lst ys) → ys.length = n → (∀ i y, ys[i]? = some y → F i y H') → Qd H') :
    ∃ W : Nat → Nat → Hp → Prop, (∃ m, W 0 m (upd H1 D (.lst []))) ∧ ∀ i m H, W i m H →
      (J.stop i H ∧ Qd H) ∨ (J.go i H ∧ ∃ Nx : Hp → Prop, (∀ H', Nx H' → ∃ m', m' < m ∧ W (i + 1) m' H') ∧ ∀ x H', J.yld i H x H' → g x (wipe σ vs) H' fun σ2 H2 => wipe σ2 vs = wipe σ vs ∧ tYes σ2 H2 fun b H3 =>
        if b = true then te σ2 H3 fun y H4 => ∃ acc, H4 D = some (.lst acc) ∧ acc.length < sizeLine ∧ Nx (upd H4 D (.lst (acc ++ [y]))) else Nx H3) := by
  refine lc_it W (tt := tYes) (fun i H' => L2.Same H1 H' ∧ ∃ ys : List V, H' D = some (.lst ys) ∧ ys.length = i ∧ ∀ j y, ys[j]? = some y → F j y H') ⟨Same.new hD, [], upd_same, rfl, fun j y h => by cases h⟩ (fun i H' _ h => stay H' h.1) (fun i x H H' hi h y => ?_) (fun H' h => ?_)
  · obtain ⟨s1, ys, hDp, ly, fy⟩ := h
    refine step i x H H' _ hi s1 y fun z H3 s2 fz => ⟨_, s2 _ _ hDp, small1000 (by omega), ?_, ys ++ [z], upd_same, ?_, ?_⟩
    · intro c o e
      rw [upd_ne (ne_of_none e hD)]
      exact s2 _ _ (s1 _ _ e)
    · rw [List.length_append, ly]; rfl
    · intro j y hj
      by_cases e : j < ys.length
      · rw [List.getElem?_append_left e] at hj
        exact st D _ j y H _ hDp (fun _ z => nomatch z) (fun b o ne hb => (upd_ne ne).trans (s2 _ _ hb)) (fy j y hj)
      · have ej : j = i := by
          have := (List.getElem?_eq_some_iff.mp hj).1
          rw [List.length_append, List.length_singleton] at this
          omega
        rw [List.getElem?_append_right (by omega), ej, ly, Nat.sub_self] at hj
        obtain rfl : z = y := Option.some.inj hj
        rw [ej]
        exact st D _ i z H3 _ (s2 _ _ hDp) (fun _ z => nomatch z) (fun b o ne hb => (upd_ne ne).trans hb) fz
  · obtain ⟨s1, ys, hDp, ly, fy⟩ := h
    exact done H' ys s1 hDp ly fy
end
section
variable {K : PySem.W.Frag}
/-- [.. for key in told], the keys tuples -/
theorem lk_each {te0 : TE} {g : TG} {te : TE} {vs : List Nat} {σ : L2.St} {H : Hp} {Q : VK} {d : Addr} {kvs : List (List Key × V)} (hi : ∀ od (R : VK), R (.ref d) (upd H d (.frz od (.dT kvs))) → te0 σ (upd H d (.frz od (.dT kvs))) R) (hd : H d = some (.dT kvs))
    (F : Nat → V → Hp → Prop) (st : StabF F) (few : kvs.length ≤ 1000)
    (step : ∀ i kk v q od H1 (R : VK), kvs[i]? = some (kk, v) → L2.Same (upd H d (.frz od (.dT kvs))) H1 → H1 q = some (.tup (kk.map kV)) → (∀ y H3, L2.Same H1 H3 → F i y H3 → R y H3) → g (.ref q) (wipe σ vs) H1 fun σ2 H2 => wipe σ2 vs = wipe σ vs ∧ te σ2 H2 R)
    (k : ∀ D ys H', L2.Same H H' → H D = none → H' D = some (.lst ys) → ys.length = kvs.length → (∀ i y, ys[i]? = some y → F i y H') → Q (.ref D) H') :
    tLockE (tLc (iKeys te0) g tYes te vs) σ H Q := by
  refine ⟨d, .dT kvs, hd, trivial, fun od => ?_⟩
  refine hi od _ ⟨d, od, rfl, .inr ⟨kvs, upd_same, fun D hD => ?_⟩⟩
  have nDd : D ≠ d := fun e => by rw [e, upd_same] at hD; cases hD
  have hD0 : H D = none := by rw [upd_ne nDd] at hD; exact hD
  refine lc_each walk_keysT F st few hD (fun H' s => s _ _ upd_same) ?_ ?_
  · rintro i x H1 H1' R hi s1 ⟨rfl, kk, v, q, hk, rfl, hq⟩ kR
    exact step i kk v q od H1' R hk s1 hq kR
  · intro H1 ys s1 hD1 ly fy
    have hdl : H1 d = some (.frz od (.dT kvs)) := s1 _ _ upd_same
    refine ⟨hdl, k D ys _ (fun b o e => ?_) hD0 ((upd_ne nDd).trans hD1) ly fun i y hy => st d _ i y H1 _ hdl (fun _ z => nomatch z) (fun b o ne hb => (upd_ne ne).trans hb) (fy i y hy)⟩
    by_cases hb : b = d
    · rw [hb] at e ⊢
      rw [hd] at e
      rw [upd_same]; exact e
    · rw [upd_ne hb]
      exact s1 _ _ ((upd_ne hb).trans e)
/-- [.. for x in a list] -/
theorem ll_each {te0 : TE} {g : TG} {te : TE} {vs : List Nat} {σ : L2.St} {H : Hp} {Q : VK} (R0 : Addr → List V → Hp → Prop) (F : Nat → V → Hp → Prop) (st : StabF F)
    (hl : ∀ R : VK, (∀ l xs H1, R0 l xs H1 → SqL K H1 l xs → xs.length ≤ 1000 → R (.ref l) H1) → te0 σ H R)
    (keep : ∀ l xs H1 H2, R0 l xs H1 → L2.Same H1 H2 → SqL K H2 l xs)
    (step : ∀ l xs H0 i x H1 (R : VK), R0 l xs H0 → xs[i]? = some x → L2.Same H0 H1 → (∀ y H3, L2.Same H1 H3 → F i y H3 → R y H3) → g x (wipe σ vs) H1 fun σ2 H2 => wipe σ2 vs = wipe σ vs ∧ te σ2 H2 R)
    (k : ∀ l xs H0 D ys H', R0 l xs H0 → L2.Same H0 H' → H0 D = none → H' D = some (.lst ys) → ys.length = xs.length → (∀ i y, ys[i]? = some y → F i y H') → Q (.ref D) H') :
    tLc (iList K te0) g tYes te vs σ H Q := by
  refine hl _ fun l xs H1 r0 hs few => ?_
  refine ⟨l, rfl, ⟨xs, hs⟩, fun D hD => ?_⟩
  refine lc_each (walk_list (K := K) (a := l) (xs := xs)) F st few hD (fun H' s => keep l xs H1 H' r0 s) ?_ ?_
  · rintro i x H2 H2' R hi s1 ⟨rfl, hx⟩ kR
    exact step l xs H1 i x _ R r0 hx s1 kR
  · intro H2 ys s1 hD1 ly fy
    exact k l xs H1 D ys H2 r0 s1 hD hD1 ly fy
end
/-- things all of which are addresses -/
theorem refs_of {α : Type} {R : Addr → α → Prop} : ∀ {L : List α} {ys : List V}, ys.length = L.length → (∀ (i : Nat) (y : V) (a : α), ys[i]? = some y → L[i]? = some a → ∃ t, y = .ref t ∧ R t a) → ∃ ps : List Addr, ys = ps.map V.ref ∧ Paired R ps L
  | [], [], _, _ => ⟨[], rfl, .nil⟩
  | [], _ :: _, h, _ => by cases h
  | _ :: _, [], h, _ => by cases h
  | a :: L, y :: ys, h, k => by
    obtain ⟨t, rfl, r⟩ := k 0 y a rfl rfl
    obtain ⟨ps, e, p⟩ := refs_of (Nat.succ.inj h) fun i y a h1 h2 => k (i + 1) y a h1 h2
    exact ⟨t :: ps, by rw [e]; rfl, .cons r p⟩
theorem keys_putK (kvs : List (Key × V)) (ks : List Str) (x : Str) (v : V) (h : kvs.map (·.1) = ks.map Sum.inr) : (putK kvs (Sum.inr x) v).map (·.1) = (added ks x).map Sum.inr := by
  unfold putK added
  have ha : (kvs.any fun kv => decide (kv.1 = Sum.inr x)) = decide (x ∈ ks) := by
    have e1 : (kvs.any fun kv => decide (kv.1 = Sum.inr x)) = (kvs.map (·.1)).any fun k => decide (k = Sum.inr x) := by rw [List.any_map]; rfl
    rw [e1, h, List.any_map]
    by_cases z : x ∈ ks
    · rw [decide_eq_true z]
      exact List.any_eq_true.mpr ⟨x, z, by simp⟩
    · rw [decide_eq_false z, List.any_eq_false]
      intro y hy
      simp only [Function.comp, decide_eq_true_eq]
      intro e
      injection e with e
      exact z (e ▸ hy)
  rw [ha]
  by_cases z : x ∈ ks
  · rw [if_pos (decide_eq_true z), if_pos z, ← h, List.map_map]
    refine List.map_congr_left fun kv _ => ?_
    show (if kv.1 = Sum.inr x then (kv.1, v) else kv).1 = kv.1
    split <;> rfl
  · rw [if_neg (by simp [z]), if_neg z, List.map_append, List.map_append, h]
    rfl
theorem keys_mergeK : ∀ (L : List (Str × V)) (kvs : List (Key × V)) (ks : List Str), kvs.map (·.1) = ks.map Sum.inr → ks.Nodup → ∃ ks' : List Str, (mergeK kvs (L.map fun p => (Sum.inr p.1, p.2))).map (·.1) = ks'.map Sum.inr ∧ ks'.Nodup ∧ ∀ x, x ∈ ks' ↔ x ∈ ks ∨ x ∈ L.map (·.1)
  | [], kvs, ks, h, n => ⟨ks, h, n, fun x => by simp⟩
  | p :: L, kvs, ks, h, n => by
    obtain ⟨ks', h1, h2, h3⟩ := keys_mergeK L (putK kvs (Sum.inr p.1) p.2) (added ks p.1) (keys_putK kvs ks p.1 p.2 h) (added_nodup n)
    refine ⟨ks', h1, h2, fun x => ?_⟩
    rw [h3, added_mem, List.map_cons, List.mem_cons]
    constructor
    · rintro ((a | b) | c)
      · exact .inl a
      · exact .inr (.inl b)
      · exact .inr (.inr c)
    · rintro (a | b | c)
      · exact .inl (.inl a)
      · exact .inl (.inr b)
      · exact .inr c
section
variable {P : Program} {w : World} {K : PySem.W.Frag} {mg : Str → Option Value} {base : Heap} {C : Addr}
def spKindsOf : Sp := fun vs H Q _ => ∃ (d : Addr) (ws : List Str) (f : Str → Str → Str), vs = [.ref d] ∧ H d = some (.dT (tabW ws f)) ∧ KW ws f ∧ ∀ (q : Addr) (H' : Hp), L2.Same H H' → H q = none → H' q = some (.lst (ws.map V.str)) → Q (.ref q) H'
abbrev nKindsOf : List Str := ["_law_table_here", "_law_pair"]
theorem scKindsOf : FnScope nKindsOf ["_law_table_here"] (defScope sKindsOf) := ⟨rfl, rfl, rfl, by decide +kernel, rfl, by decide +kernel, by decide +kernel⟩
theorem pairsW_fst {ws : List Str} {x : Str} : x ∈ (pairsW ws).map (·.1) ↔ x ∈ ws := by
  rw [List.mem_map]
  constructor
  · rintro ⟨p, hp, rfl⟩
    exact (mem_pairsW.mp hp).1
  · intro h
    exact ⟨(x, x), mem_pairsW.mpr ⟨h, h⟩, rfl⟩
theorem tabW_at {ws : List Str} {f : Str → Str → Str} {i : Nat} {kk : List Key} {v : V} (h : (tabW ws f)[i]? = some (kk, v)) : ∃ p, (pairsW ws)[i]? = some p ∧ kk = keyP p ∧ v = valW f p ∧ p.1 ∈ ws ∧ p.2 ∈ ws := by
  unfold tabW at h
  rw [List.getElem?_map] at h
  cases e : (pairsW ws)[i]? with
  | none => rw [e] at h; cases h
  | some p =>
    rw [e] at h
    have h := Option.some.inj h
    have m := mem_pairsW.mp (List.mem_of_getElem? e)
    exact ⟨p, rfl, (congrArg Prod.fst h).symm, (congrArg Prod.snd h).symm, m.1, m.2⟩
theorem tab16 {ws : List Str} {f : Str → Str → Str} (kw : KW ws f) : (tabW ws f).length ≤ 16 := by
  rw [tabW_len]
  exact Nat.le_trans (Nat.mul_le_mul kw.few kw.few) (by decide)
theorem ok_kindsOf {g : Addr} {fd : FuncData} (F : Fun K "_law_kinds_of" "_law_kinds_of" sKindsOf g fd) (Z : Blp mg) : FnOk P w K mg base CX0 1 g fd ["_law_table_here"] spKindsOf := by
  refine F.ok scKindsOf (fun vs H Q E h => ?_) (fun cdv A outer s H vs Q E hr h => ?_)
  · obtain ⟨d, ws, f, rfl, _⟩ := h
    rfl
  · obtain ⟨d, ws, f, rfl, hd, kw, k⟩ := h
    have nd := scKindsOf.nd
    refine ⟨_, pss_one (ps_ret (pe_callB (call_sortedD rfl) (by rfl) Z.sorted (by decide +kernel) (pa_cons (pe_callTy (call_dictP rfl) (by rfl) Z.dict (by decide +kernel) (pa_cons (pe_lock
      (pe_lc (own := [("_law_pair", 1)]) (g := gName 1) (tt := tYes) (te := tTup (tCons (tOp (rIxT K) (tVar 1) (tC (.int 0))) (tCons (tC (.bl true)) tNil))) rfl nd (pi_keys (pv 0)) (blkOk_by (own := [("_law_pair", 1)]) (N := nKindsOf) (sc := defScope sKindsOf) (by decide +kernel))
        (fun _ _ _ _ _ => pg_name (i := 1) nd rfl (Or.inl rfl)) (fun _ _ _ _ _ => pts_nil) (fun _ _ _ _ _ => pe_tup (pa_cons (pe_ix ix_tup (pv 1) pe_int (fun _ _ => rfl)) (pa_cons pe_bl pa_nil))))) pa_nil)) pa_nil))), ?_⟩
    refine lk_each (fun od R hh => ⟨_, rfl, hh⟩) hd (fun i y H' => ∃ t xs, y = .ref t ∧ H' t = some (.tup xs) ∧ ∃ p, (pairsW ws)[i]? = some p ∧ xs = [.str p.1, .bl true]) (StabF.tup _) (by have := tab16 kw; omega) ?_ ?_
    · rintro i kk v q od H1 R hk s1 hq kR
      obtain ⟨⟨x, y⟩, e1, rfl, rfl, _, _⟩ := tabW_at hk
      refine at_name (σ' := [some (.ref d), some (.ref q)]) rfl ⟨rfl, ?_⟩
      refine ⟨_, rfl, q, [.str x, .str y], 0, _, rfl, rfl, SqT.of hq, atI_nat (j := 0) rfl, (by show 2 ≤ sizeLine; decide), fun t ht => ?_⟩
      exact kR _ _ (Same.new ht) ⟨t, _, rfl, upd_same, (x, y), e1, rfl⟩
    · intro D ys H1 s1 hD0 hD ly fy
      have lpw : (tabW ws f).length = (pairsW ws).length := by unfold tabW; rw [List.length_map]
      obtain ⟨ps, rfl, pr⟩ := refs_of (L := pairsW ws) (R := fun t p => H1 t = some (.tup [.str p.1, .bl true])) (ly.trans lpw) fun i y a h1 h2 => by
        obtain ⟨t, xs, e1, e2, p, e3, e4⟩ := fy i y h1
        rw [h2] at e3
        obtain rfl := Option.some.inj e3
        exact ⟨t, e1, by rw [← e4]; exact e2⟩
      have pr2 : Paired (fun p (kv : Key × V) => SqT K H1 p [kV kv.1, kv.2]) ps (((pairsW ws).map fun p => (p.1, V.bl true)).map fun p => (Sum.inr p.1, p.2)) := by
        rw [List.map_map]
        clear fy ly hD
        generalize pairsW ws = L at pr
        induction pr with
        | nil => exact .nil
        | cons r t ih => exact .cons (SqT.of r) ih
      refine ⟨D, ps, _, rfl, SqL.of hD, pr2, fun q hq => ?_⟩
      obtain ⟨ks, m1, m2, m3⟩ := keys_mergeK ((pairsW ws).map fun p => (p.1, V.bl true)) [] [] rfl .nil
      have m4 : ∀ x, x ∈ ks ↔ x ∈ ws := fun x => by
        rw [m3, List.map_map]
        have := pairsW_fst (ws := ws) (x := x)
        simp only [List.not_mem_nil, false_or]
        exact this
      have l4 : ks.length ≤ 4 := Nat.le_trans (List.Nodup.length_le_of_subset m2 fun x hx => (m4 x).mp hx) kw.few
      refine ⟨q, _, ks, rfl, .inl upd_same, m1, by omega, fun ys p py so hp => ?_⟩
      have ey : ys = ws := Asc.eq (sortedS_asc so (py.nodup_iff.mpr m2)) kw.asc (py.trans ((List.perm_ext_iff_of_nodup m2 kw.asc.nodup).mpr m4))
      subst ey
      have sq := Same.new (H := H1) (o := .dK (mergeK [] (((pairsW ys).map fun p => (p.1, V.bl true)).map fun p => (Sum.inr p.1, p.2)))) hq
      refine k p _ (fun b o e => ?_) (s1.free (sq.free hp)) upd_same
      rw [upd_ne (ne_of_none (sq _ _ (s1 _ _ e)) hp)]
      exact sq _ _ (s1 _ _ e)
/-- [k for k in kinds_of(t) if t[k, k] == k] -/
def spSquares : Sp := fun vs H Q _ => ∃ (d : Addr) (ws : List Str) (f : Str → Str → Str), vs = [.ref d] ∧ H d = some (.dT (tabW ws f)) ∧ KW ws f ∧ ∀ (q : Addr) (H' : Hp), L2.Same H H' → H q = none → H' q = some (.lst ((sqs ws f).map V.str)) → Q (.ref q) H'
abbrev nSquares : List Str := ["_law_table_here", "_law_kind_here"]
theorem scSquares : FnScope nSquares ["_law_table_here"] (defScope sSquares) := ⟨rfl, rfl, rfl, by decide +kernel, rfl, by decide +kernel, by decide +kernel⟩
theorem ok_squares {g : Addr} {fd : FuncData} (F : Fun K "_law_squares" "_law_squares" sSquares g fd) (M : Cee P w K mg base 1 "_law_kinds_of" ["_law_table_here"] spKindsOf) : FnOk P w K mg base CX0 2 g fd ["_law_table_here"] spSquares := by
  refine F.ok scSquares (fun vs H Q E h => ?_) (fun cdv A outer s H vs Q E hr h => ?_)
  · obtain ⟨d, ws, f, rfl, _⟩ := h
    rfl
  · obtain ⟨d, ws, f, rfl, hd, kw, k⟩ := h
    have nd := scSquares.nd
    refine ⟨_, pss_one (ps_ret (pe_lc (own := [("_law_kind_here", 1)]) (g := gName 1) (tt := tTest (tOp rEq (tGet2 (tVar 0) (tVar 1) (tVar 1)) (tVar 1))) (te := tVar 1) rfl nd (pi_list (pe_c M hr rfl (pa_cons (pv 0) pa_nil)))
        (blkOk_by (own := [("_law_kind_here", 1)]) (N := nSquares) (sc := defScope sSquares) (by decide +kernel)) (fun _ _ _ _ _ => pg_name (i := 1) nd rfl (Or.inl rfl)) (fun _ _ _ _ _ => pts_one (pt_cmpR op_eq (pe_dget (hu_of hr) (pv 0) (pe_tup (pa_cons (pv 1) (pa_cons (pv 1) pa_nil))) (fun _ _ => rfl)) (pv 1) (nomark _))) (fun _ _ _ _ _ => pv 1))), ?_⟩
    refine ⟨_, rfl, d, ws, f, rfl, hd, kw, fun q H1 s1 hq0 hq => ?_⟩
    refine ⟨q, rfl, ⟨_, SqL.of hq⟩, fun D hD => ?_⟩
    refine lc_it (walk_list (K := K) (a := q) (xs := ws.map V.str)) (fun i H' => L2.Same H1 H' ∧ H' D = some (.lst (((ws.take i).filter fun x => decide (f x x = x)).map V.str))) ?_ ?_ ?_ ?_
    · exact ⟨Same.new hD, upd_same⟩
    · rintro i H2 _ ⟨s2, _⟩
      exact SqL.of (s2 _ _ hq)
    · rintro i v H0 H2 hi ⟨s2, hD2⟩ ⟨rfl, hv⟩
      obtain ⟨x, ex, rfl⟩ := str_get hv
      have mx : x ∈ ws := List.mem_of_getElem? ex
      have td : TabW H2 d ws f := ⟨_, .inl (s2 _ _ (s1 _ _ hd)), tabW_tb kw.asc.nodup⟩
      refine at_name (σ' := [some (.ref d), some (.str x)]) rfl ⟨rfl, ?_⟩
      refine ⟨_, rfl, _, rfl, _, rfl, (by show 2 ≤ sizeLine; decide), fun t ht => ?_⟩
      have s3 := Same.new (H := H2) (o := .tup [.str x, .str x]) ht
      refine ⟨d, _, rfl, (td.mono s3).get mx mx upd_same, ?_⟩
      generalize upd H2 t (.tup [.str x, .str x]) = H3 at s3 ⊢
      refine ⟨_, rfl, rfl, _, rfl, ?_⟩
      have hD3 := s3 _ _ hD2
      have lenb : ((ws.take i).filter fun x => decide (f x x = x)).length ≤ 4 := Nat.le_trans (List.length_filter_le _ _) (by rw [List.length_take]; have := kw.few; omega)
      have dq : decide (V.str (f x x) = V.str x) = decide (f x x = x) := by
        by_cases z : f x x = x
        · rw [z]; simp
        · rw [decide_eq_false z, decide_eq_false]
          intro e
          injection e with e
          exact z e
      rw [dq, take_next' ex, List.filter_append]
      refine ite2 (fun hsq => ?_) (fun hsq => ?_)
      · refine ⟨_, rfl, _, hD3, ?_, fun c o e => ?_, ?_⟩
        · rw [List.length_map]
          exact small1000 (by omega)
        · rw [upd_ne (ne_of_none e hD)]
          exact s3 _ _ (s2 _ _ e)
        · have e1 : List.filter (fun x => decide (f x x = x)) [x] = [x] := List.filter_cons_of_pos (p := fun x => decide (f x x = x)) (l := []) hsq
          rw [e1, List.map_append]
          exact upd_same
      · have e1 : List.filter (fun x => decide (f x x = x)) [x] = [] := List.filter_cons_of_neg (p := fun x => decide (f x x = x)) (l := []) hsq
        rw [e1, List.append_nil]
        exact ⟨fun c o e => s3 _ _ (s2 _ _ e), hD3⟩
    · rintro H2 ⟨s2, hD2⟩
      rw [List.length_map, List.take_length] at hD2
      exact k D H2 (fun c o e => s2 _ _ (s1 _ _ e)) (s1.free hD) hD2
end
end KT
set_option Elab.async false
set_option linter.all false
set_option maxRecDepth 100000
set_option maxHeartbeats 4000000
namespace KT
open PySem L2 PyProof.Rows DTp TxS
section
variable {P : Program} {w : World} {K : PySem.W.Frag} {mg : Str → Option Value} {base : Heap} {C : Addr}
theorem tyV_dT {H : Hp} {d : Addr} {kvs : List (List Key × V)} (h : H d = some (.dT kvs)) : tyV K "dict" (.ref d) H := .inr (.inr (.inl ⟨rfl, .inr ⟨kvs, h⟩⟩))
theorem ItT.prT {H : Hp} : ∀ {ts : List Addr} {kvs : List (List Key × V)}, ItT H ts kvs → PrT K H ts kvs
  | _, _, .nil => .nil
  | _, _, .cons ⟨b, h1, h2⟩ t => .cons ⟨b, SqT.of h1, h2⟩ (ItT.prT t)
theorem paired_append {α β : Type} {F : α → β → Prop} : ∀ {xs : List α} {ys : List β} {xs2 : List α} {ys2 : List β}, Paired F xs ys → Paired F xs2 ys2 → Paired F (xs ++ xs2) (ys ++ ys2)
  | _, _, _, _, .nil, h => h
  | _, _, _, _, .cons r t, h => .cons r (paired_append t h)
theorem paired_rev {α β : Type} {F : α → β → Prop} : ∀ {xs : List α} {ys : List β}, Paired F xs ys → Paired F xs.reverse ys.reverse
  | _, _, .nil => .nil
  | _, _, .cons r t => by
    rw [List.reverse_cons, List.reverse_cons]
    exact paired_append (paired_rev t) (.cons r .nil)
theorem ItT.mono {H H' : Hp} (s : L2.Same H H') {ts : List Addr} {kvs : List (List Key × V)} (h : ItT H ts kvs) : ItT H' ts kvs := Paired.mapP h fun _ _ ⟨b, h1, h2⟩ => ⟨b, s _ _ h1, s _ _ h2⟩
/-- a dict of the same entries in another order -/
theorem merge_perm {ws : List Str} {f : Str → Str → Str} (n : ws.Nodup) {ps : List (Str × Str)} (pm : ps.Perm (pairsW ws)) : TbG (SqW ws) keyP (valW f) (mergeT [] (ps.map fun p => (keyP p, valW f p))) :=
  (TbG.merge (val := valW f) keyP_inj ps TbG.nil).congr fun a => by
    rw [false_or, pm.mem_iff, mem_pairsW]
theorem tabW_rev {ws : List Str} {f : Str → Str → Str} : (tabW ws f).reverse = (pairsW ws).reverse.map fun p => (keyP p, valW f p) := by
  unfold tabW
  rw [List.map_reverse]
end
end KT
set_option Elab.async false
set_option linter.all false
set_option maxRecDepth 100000
set_option maxHeartbeats 4000000
namespace KT
open PySem L2 PyProof.Rows DTp TxS
section
variable {ws vs : List Str} {f g : Str → Str → Str}
theorem putK_new {κ : Type} [DecidableEq κ] {kvs : List (κ × V)} {k : κ} {v : V} (h : k ∉ kvs.map (·.1)) : putK kvs k v = kvs ++ [(k, v)] := by
  unfold putK
  rw [if_neg]
  intro e
  obtain ⟨kv, hkv, e2⟩ := List.any_eq_true.mp e
  exact h (List.mem_map.mpr ⟨kv, hkv, of_decide_eq_true e2⟩)
theorem mergeK_nd : ∀ (more kvs : List (Key × V)), ((kvs ++ more).map (·.1)).Nodup → mergeK kvs more = kvs ++ more
  | [], kvs, _ => by rw [List.append_nil]; rfl
  | p :: more, kvs, h => by
    have e : kvs ++ p :: more = (kvs ++ [p]) ++ more := by simp
    have hp : p.1 ∉ kvs.map (·.1) := by
      rw [List.map_append, List.map_cons] at h
      intro m
      exact (List.nodup_append.mp h).2.2 _ m _ List.mem_cons_self rfl
    show mergeK (putK kvs p.1 p.2) more = _
    rw [putK_new hp, mergeK_nd more _ (by rw [← e]; exact h), e]
end
end KT
set_option Elab.async false
set_option linter.all false
set_option maxRecDepth 100000
set_option maxHeartbeats 4000000
namespace KT
open PySem L2 PyProof.Rows DTp TxS
section
variable {ws : List Str} {f : Str → Str → Str}
theorem cut_to (xs : List V) (j : Nat) (h : j ≤ xs.length) : cutV xs none (some (j : Int)) = xs.take j := by
  unfold cutV
  have e1 : HT.sIx xs.length 0 none = 0 := rfl
  have e2 : HT.sIx xs.length xs.length (some (j : Int)) = j := by
    rw [HT.sIx_nat]; omega
  rw [e1, e2, List.drop_zero, Nat.sub_zero]
theorem cut_from (xs : List V) (j : Nat) (h : j ≤ xs.length) : cutV xs (some (j : Int)) none = xs.drop j := by
  unfold cutV
  have e1 : HT.sIx xs.length xs.length none = xs.length := rfl
  have e2 : HT.sIx xs.length 0 (some (j : Int)) = j := by
    rw [HT.sIx_nat]; omega
  rw [e1, e2, List.take_of_length_le]
  rw [List.length_drop]
  exact Nat.le_refl _
theorem Pws.uniq {x : Str} {L a L' a' : Nat} (h : Pws f x L a) (h' : Pws f x L' a') : L = L' ∧ a = a' := by
  have hl : L = L' := by
    rcases Nat.lt_trichotomy L L' with z | z | z
    · exact absurd h.eq.symm (h'.dis a L h.lt z)
    · exact z
    · exact absurd h'.eq.symm (h.dis a' L' h'.lt z)
  subst hl
  exact ⟨rfl, h.inj h.lt h'.lt (h.eq.symm.trans h'.eq)⟩
end
end KT
set_option Elab.async false
set_option linter.all false
set_option maxRecDepth 100000
set_option maxHeartbeats 2000000
namespace OwQ
open PySem PySem.Spec PySem.W PyProof.Rows L2
section
variable {prog : Program} {w : World} {A : Around} {E : Value → Shared → Prop} {s : Shared} {K : Frag} {x C L f : Addr} {h₀ : Heap} {m : Str → Option Value} {ox : Obj} {od : Option Obj} {b tb : Value}
def BlBack (Q : Bool → Shared → Prop) (v : Value) (s' : Shared) : Prop := ∃ c, v = .bool c ∧ Q c s'
end
/-- a class with an own __eq__ at f, which keeps sp -/
structure EqC (P : Program) (w : World) (K : PySem.W.Frag) (mg : Str → Option Value) (base : Heap) (k : Nat) (C : Addr) (sp : Sp) : Prop where
  ex : ∃ (f : Addr) (fd : FuncData) (ps : List Str), FnOk P w K mg base CX0 k f fd ps sp ∧ findIn K (.ref C) "__eq__" = some (some (.ref f)) ∧ isFn K (.ref f) = true ∧ Binds K fd ps []
  ne : findIn K (.ref C) "__ne__" = some (some (.builtin "object.__ne__"))
  mro : mroIn K C (.type "object") = some true
/-- what __eq__ of x and y tells, turned about where neg -/
def rOwn (K : PySem.W.Frag) (C : Addr) (sp : Sp) (neg : Bool) : R2 := fun x y H Q => ∃ (a dx : Addr) (fs : List (Str × V)) (tb : Value), x = .ref a ∧ H a = some (.ins C dx fs) ∧ TyX K H y tb ∧ notFirst K C tb = true ∧
  sp [x, y] H (fun v H' => ∃ c, v = .bl c ∧ Q (.bl (if neg = true then !c else c)) H') E0
section
variable {X : Cx} {C : Addr} {sp : Sp} {k : Nat}
theorem run_eq {A : Around} {pins : List (Addr × Obj)} {σ : L2.St} {H : Hp} {s : Shared} {x y : V} {u v : Value} {Q : Bool → Hp → Prop} {f : Addr} {fd : FuncData} {ps : List Str} (F : FnOk X.prog X.w X.K X.mg X.base CX0 k f fd ps sp) (hb : Binds X.K fd ps []) (hr : Room k A) (hA : A.frames = X.A.frames)
    (I : Inv X pins σ H s) (rx : RelV x u) (ry : RelV y v) (h : sp [x, y] H (fun z H' => ∃ c, z = .bl c ∧ Q c H') E0) : wpAny (model X.prog X.w) A (call (.ref f) [u, v]) (BlBack fun c s' => ∃ H', Inv X pins σ H' s' ∧ Q c H') X.xe s := by
  have e0 : Env0 X.prog X.w X.K X.mg X.base A X.stack s H := by
    have e := I.env0
    exact ⟨by rw [hA]; exact e.frames, e.mod, e.bs, e.bsz, e.funs, e.frf, e.hok, e.bare⟩
  have hl := F.len _ _ _ _ h
  have r2 : Vals [x, y] [u, v] := .cons rx (.cons ry .nil)
  refine wpAny_call (codeAny_mono (F.run A X.stack s H ⟨[u, v], []⟩ [u, v] [x, y] _ E0 hr e0 (by
    have := hb s [u, v] I.kIn (by simpa using hl)
    simpa using this) r2 h) fun r s' hq => ?_)
  cases r with
  | error e => exact (pass0 pins σ H s e s' I hq)
  | ok fl =>
    cases fl with
    | ret w =>
      obtain ⟨z, H', I', rz, c, ez, q⟩ := I.after hq
      subst ez
      exact ⟨c, rz, H', I', q⟩
    | next => exact False.elim hq
    | brk => exact False.elim hq
    | cont => exact False.elim hq
theorem op_eqOwn (D : EqC X.prog X.w X.K X.mg X.base k C sp) (hr : Room k X.A) : OpR X (compareOp .Eq) (rOwn X.K C sp false) := by
  intro pins s σ H x y v u Q I rx ry h
  obtain ⟨a, dx, fs, tb, rfl, ha, ty, hn, q⟩ := h
  obtain ⟨f, fd, ps, F, h1, h2, h3⟩ := D.ex
  obtain rfl : v = Value.ref a := rx
  obtain ⟨mA, J, _⟩ := ins_get I.hok ha
  obtain ⟨od, J, _⟩ := J.look
  obtain ⟨m, hF⟩ := I.fr
  obtain ⟨Pk, Z, pz, _⟩ := kit_of I ry ty
  refine cmp_K (op := .Eq) (tb := tb) hr.units0 hF I.ok.mod.kin J (Z.ty _ _ I.kIn pz) hn h1 h2 (wpAny_mono (run_eq (Q := fun c H' => Q (.bl c) H') F h3 hr rfl I (show RelV (V.ref a) (Value.ref a) from rfl) ry q) (fun z s' hz => ?_) fun _ _ e => e)
  obtain ⟨c, rfl, H', I', q'⟩ := hz
  exact ⟨.bl c, H', I', rfl, q'⟩
end
end OwQ
namespace KT
open PySem PySem.Spec PyProof.Rows L2
/-- a def as those who call it by keywords alone know it; gV: the values in the parameters' order -/
structure Kee (P : Program) (w : World) (K : PySem.W.Frag) (mg : Str → Option Value) (base : Heap) (k : Nat) (x : Str) (ps : List Str) (sp : Sp) (ks : List Str) (gV : List V → List V → List V) : Prop where
  ex : ∃ (f : Addr) (fd : FuncData) (g : List Value → List Value → List Value), FnOk P w K mg base CX0 k f fd ps sp ∧ mg x = some (.ref f) ∧ PySem.W.keepIn K (.ref f) = true ∧ KBn K fd ps 0 ks g gV
section
variable {X : Cx} {k j : Nat} {x : Str} {ps ks : List Str} {sp : Sp} {gV : List V → List V → List V} {p pos : Pos} {kws : List Keyword} {tk : TA}
theorem pe_ck (C : Kee X.prog X.w X.K X.mg X.base k x ps sp ks gV) (hr : Room j X.A) (hg : Gl X x) (hkw : PK X kws tk) (hkj : k ≤ j := by decide) (hall : (backToKw pos (keywordEach kws X.env)).all (·.1.isSome) = true := by rfl) (hks : (backToKw pos (keywordEach kws X.env)).filterMap (·.1) = ks := by rfl)
    (hdb : (x == ("__debug__" : Str)) = false := by decide) (hpl : ((backTo pos (starEach [] X.env)).any (·.1) || (backToKw pos (keywordEach kws X.env)).any (·.1.isNone)) = false := by rfl) :
    PE X (.Call (.Name x p) [] kws pos) (tCallN 0 ks.length sp gV E0 tNil tk) := by
  obtain ⟨f, fd, g, F, m, kp, hb⟩ := C.ex
  refine ⟨fun pins s σ H Q I h => ?_⟩
  refine wpAny_Call_Name_kw (ld_glob I hg m ?_ hdb)
  refine PySem.W.callWith_KW0 (h₀ := X.base) I.ok.mod.kin kp hall (thn (hkw.run pos pins s σ H _ I h) fun ws s2 ⟨zs, H2, I2, rz, l1, l2, q2⟩ => ⟨I2.kIn, ?_⟩) hpl
  rw [hks]
  exact run_fnN (us := []) (vs := []) F (hr.mono hkj) hb pass0 I2 .nil rz rfl l2 q2
end
end KT
set_option Elab.async false
set_option linter.all false
set_option maxRecDepth 100000
set_option maxHeartbeats 2000000
set_option Elab.async false
set_option linter.all false
set_option maxRecDepth 100000
set_option maxHeartbeats 8000000
namespace KT
open PySem L2 PyProof.Rows DTp TxS
section
variable {P : Program} {w : World} {K : PySem.W.Frag} {mg : Str → Option Value} {base : Heap} {C : Addr}
theorem Same.mut {H H1 : Hp} {p : Addr} {o : HO} (s : L2.Same H H1) (h : H p = none) : L2.Same H (upd H1 p o) := fun b u e => by
  rw [upd_ne (ne_of_none e h)]
  exact s _ _ e
theorem KdIn.but {C : Addr} {H H' : Hp} {z x dx d l : Addr} {ws : List Str} {f : Str → Str → Str} (h : KdIn C H x dx d l ws f) (b : But z H H') (n1 : x ≠ z) (n2 : d ≠ z) (n3 : l ≠ z) : KdIn C H' x dx d l ws f := ⟨b x _ n1 h.ob, b d _ n2 h.dc, b l _ n3 h.ls, h.kw⟩
theorem tyX_mono {K : PySem.W.Frag} {H H' : Hp} {x : V} {t : Value} (s : L2.Same H H') (h : TyX K H x t) : TyX K H' x t := by
  cases h with
  | base b =>
    refine .base ?_
    cases b with
    | non => exact .non
    | bl x => exact .bl x
    | int i => exact .int i
    | str x => exact .str x
    | flt x => exact .flt x
    | lst e => exact .lst (s _ _ e)
    | frz e => exact .frz (s _ _ e)
    | tup e => exact .tup (s _ _ e)
    | dK e => exact .dK (s _ _ e)
    | dT e => exact .dT (s _ _ e)
    | ins e cl ha hn htk hm => exact .ins (s _ _ e) cl ha hn htk hm
  | byt b => exact .byt b
  | set e => exact .set (s _ _ e)
  | kList e c => exact .kList e c
  | kTuple e c => exact .kTuple e c
  | kDict e c => exact .kDict e c
  | fTuple e => exact .fTuple (s _ _ e)
  | fDict e => exact .fDict (s _ _ e)
/-- others than the Kinds of f over ws -/
def Oth (K : PySem.W.Frag) (C : Addr) (ws : List Str) (f : Str → Str → Str) (H : Hp) (x : V) : Prop := (∃ q ws2 f2, x = .ref q ∧ KdAt C H q ws2 f2 ∧ sameT (tabW ws f) (tabW ws2 f2) = false) ∨ ∃ t ∈ ["NoneType", "int", "dict", "list", "tuple"], TyX K H x (.type t)
theorem Oth.mono {ws : List Str} {f : Str → Str → Str} {H H' : Hp} {x : V} (s : L2.Same H H') (h : Oth K C ws f H x) : Oth K C ws f H' x := by
  rcases h with ⟨q, ws2, f2, e, kd, n⟩ | ⟨t, m, ty⟩
  · exact .inl ⟨q, ws2, f2, e, kd.mono s, n⟩
  · exact .inr ⟨t, m, tyX_mono s ty⟩
theorem mk_kindsR {H : Hp} {R : Addr → Hp → Prop} {a : Addr} {kvs : List (List Key × V)} {ws : List Str} {f : Str → Str → Str} (ha : H a = some (.dT kvs)) (tb : TbG (SqW ws) keyP (valW f) kvs) (kw : KW ws f)
    (k : ∀ x H', KdNew C H H' x ws f → L2.Same H H' → R x H') : ∀ x dx, H x = none → H dx = none → dx ≠ x → spKInit C (.ref x :: ([.ref a] ++ [])) (upd (upd H dx (.own x)) x (.ins C dx [])) (fun v H2 => v = .non ∧ R x H2) E0 :=
  fun x dx hx hdx ne => mk_kinds (Q := fun v H' => ∀ y, v = .ref y → R y H') ha tb kw (fun y H' kn s z e => by
    cases e
    exact k y H' kn s) x dx hx hdx ne |> fun h => by
      obtain ⟨p, dx2, a2, kvs2, ws2, f2, e, h1, h2, h3, h4, h5⟩ := h
      exact ⟨p, dx2, a2, kvs2, ws2, f2, e, h1, h2, h3, h4, fun H' d l u1 u2 u3 u4 => ⟨(h5 H' d l u1 u2 u3 u4).1, (h5 H' d l u1 u2 u3 u4).2 x rfl⟩⟩
theorem dpAll_strs {H : Hp} : ∀ L : List Str, DpAll K H (L.map V.str) (L.map PyData.str)
  | [] => .nil
  | x :: L => .cons (.str x) (dpAll_strs L)
theorem dp_strs {H : Hp} {a : Addr} {L : List Str} (h : SqL K H a (L.map V.str)) : Dp K H (.ref a) (.list (L.map PyData.str)) := .lst h (dpAll_strs L)
theorem lay_strs : ∀ L : List Str, (∀ x ∈ L, Wd x) → PyData.canLayAll0 (L.map PyData.str) = true
  | [], _ => rfl
  | x :: L, h => by
    simp only [List.map_cons, PyData.canLayAll0, PyData.canLay0, Bool.and_eq_true]
    refine ⟨?_, lay_strs L fun y hy => h y (List.mem_cons_of_mem _ hy)⟩
    unfold PyData.strOk
    rw [Array.all_eq_true_iff_forall_mem]
    intro c hc
    have := (h x List.mem_cons_self).2.2 c (Array.mem_toList_iff.mpr hc)
    exact decide_eq_true (by omega)
theorem depth_strs : ∀ L : List Str, PyData.depthAll (L.map PyData.str) ≤ 2
  | [] => by simp [PyData.depthAll]
  | z :: zs => by
    have h1 := depth_strs zs
    simp only [List.map_cons, PyData.depthAll, PyData.depth]
    omega
theorem shaped_strs (L : List Str) (h : ∀ x ∈ L, Wd x) : SeqAt.shaped (.list (L.map PyData.str)) = true := by
  have h1 := depth_strs L
  have h2 : PyData.depth (.list (L.map PyData.str)) ≤ 64 := by
    simp only [PyData.depth]
    omega
  show (PyData.canLay0 (.list (L.map PyData.str)) && decide (PyData.depth (.list (L.map PyData.str)) ≤ 64)) = true
  rw [Bool.and_eq_true]
  exact ⟨by simp only [PyData.canLay0]; exact lay_strs L h, decide_eq_true h2⟩
end
end KT
set_option Elab.async false
set_option linter.all false
set_option maxRecDepth 100000
set_option maxHeartbeats 4000000
namespace TxS
open PySem PySem.Spec PySem.W PyProof.Rows L2
/-- the texts met, in their order -/
def met (xs : List Str) : List Str := xs.foldl added []
theorem addedAll_mem : ∀ (xs L : List Str) (x : Str), x ∈ xs.foldl added L ↔ x ∈ L ∨ x ∈ xs
  | [], L, x => by simp
  | y :: xs, L, x => by
    show x ∈ xs.foldl added (added L y) ↔ _
    rw [addedAll_mem xs]
    unfold added
    by_cases h : y ∈ L
    · rw [if_pos h, List.mem_cons]
      exact ⟨fun z => z.elim .inl fun q => .inr (.inr q), fun z => z.elim .inl fun q => q.elim (fun e => .inl (e ▸ h)) .inr⟩
    · rw [if_neg h, List.mem_append, List.mem_singleton, List.mem_cons, or_assoc]
theorem met_mem {xs : List Str} {x : Str} : x ∈ met xs ↔ x ∈ xs := by
  unfold met
  rw [addedAll_mem]
  simp
theorem addedAll_len : ∀ (xs L : List Str), (xs.foldl added L).length ≤ L.length + xs.length
  | [], L => Nat.le_refl _
  | y :: xs, L => by
    have h := addedAll_len xs (added L y)
    have h2 : (added L y).length ≤ L.length + 1 := by
      unfold added
      split
      · omega
      · rw [List.length_append, List.length_singleton]; omega
    show (xs.foldl added (added L y)).length ≤ _
    rw [List.length_cons]; omega
theorem addedAll_nodup : ∀ (xs L : List Str), L.Nodup → (xs.foldl added L).Nodup
  | [], L, h => h
  | y :: xs, L, h => addedAll_nodup xs _ (by
    unfold added
    split
    · exact h
    · next z => exact List.nodup_append.mpr ⟨h, by simp, fun a ha b hb e => z (by rw [List.mem_singleton.mp hb] at e; exact e ▸ ha)⟩)
theorem met_nodup (xs : List Str) : (met xs).Nodup := addedAll_nodup xs [] List.nodup_nil
section
variable {P : Program} {w : World} {A : Around} {E : Value → Shared → Prop} {R : Result → Shared → Prop}
/-- one item more, and on -/
theorem goOn {I : Addr} {fp wr : List Addr} {G : Array GenState → Array GenState → Prop} {n : Nat} {Pv : Nat → Value → Prop} {St : Nat → Shared → Prop} (W : WalksS P w A.in1 I fp wr G n Pv St) (S : Addr) (off : S ∉ fp) (xs : List Str) (few : xs.length < 1000) (hn : n = xs.length)
    (items : ∀ i v, Pv i v → ∃ x t, xs[i]? = some x ∧ v = .str x t) : ∀ (left i : Nat) (s : Shared), i + left = n → St i s → TxSet w s.heap S (met (xs.take i)) → (∀ s', Moved (S :: wr) G s s' → TxSet w s'.heap S (met xs) → R (.ok (.ret .none)) s') →
    codeAny (model P w) A (.builtin "set.update.loop" ⟨[.ref S, .ref I], []⟩) R s
  | 0, i, s, e, st, hS, done => by
    have ei : i = n := e
    have Sw : S ∉ wr := fun z => off (W.sub _ z)
    rw [ei] at st hS
    have full : met (xs.take n) = met xs := by rw [hn, List.take_length]
    rw [full] at hS
    refine codeAny_builtin F.entry_set_update_loop (by rw [Around.under_plainId F.plain_set_update_loop _]; exact wpAny_bind (W.done s _ _ st fun s' mv => wpAny_pure (done s' (mv.mono fun b hb => List.mem_cons_of_mem _ hb) (hS.at fun o ho => mv.heap S o Sw ho))))
  | left + 1, i, s, e, st, hS, done => by
    have Sw : S ∉ wr := fun z => off (W.sub _ z)
    refine codeAny_builtin F.entry_set_update_loop ?_
    rw [Around.under_plainId F.plain_set_update_loop _]
    refine wpAny_bind (W.item i s _ _ (by omega) st fun v s1 hv st1 mv => ?_)
    obtain ⟨x, t, ex, rfl⟩ := items i v hv
    have R1 : TxSet w s1.heap S (met (xs.take i)) := hS.at fun o ho => mv.heap S o Sw ho
    have room : (met (xs.take i)).length + 1 < scanBound := by
      have q := addedAll_len (xs.take i) []
      have q2 : (xs.take i).length ≤ xs.length := by rw [List.length_take]; omega
      have q3 : (met (xs.take i)).length ≤ xs.length := by unfold met; rw [List.length_nil] at q; omega
      unfold scanBound
      omega
    have next : added (met (xs.take i)) x = met (xs.take (i + 1)) := by
      unfold met
      rw [List.take_add_one, ex, List.foldl_append]
      rfl
    refine wpAny_bind (wpAny_holding ?_)
    unfold setAdd
    refine wpAny_holding (wpAny_bind ((PySem.strKind P w).pyHash (strKind_is P w x t) (add_hashed (s := { s1 with toks := s1.toks + 1 }) R1 room fun h' sb R2 => ?_)))
    rw [next] at R2
    have far : ∀ b, b ∈ fp → b ≠ S := fun b hb z => off (z ▸ hb)
    refine wpAny_pure ⟨plainId_quiet F.plain_set_update_loop _, goOn W S off xs few hn items left (i + 1) _ (by omega) (W.frame _ s1 _ _ st1 (Nat.le_succ _) fun b hb o ho => (sb.2 b (far b hb)).trans ho) R2 fun s2 mv2 R3 => done s2 ?_ R3⟩
    exact Moved.trans W.gtrans ((mv.mono fun b hb => List.mem_cons_of_mem _ hb).then_heap (Nat.le_succ _) fun b o hb ho => (sb.2 b fun z => hb (by rw [z]; exact List.mem_cons_self)).trans ho) mv2
end
section
variable {P : Program} {w : World} {A : Around} {E : Value → Shared → Prop} {s : Shared}
theorem strs_nth : ∀ {us : List Value} {xs : List Str}, StrsAre us xs → ∀ (i : Nat) (v : Value), us[i]? = some v → ∃ x t, xs[i]? = some x ∧ v = .str x t
  | _, _, .nil, i, v, h => by cases h
  | _, _, .cons x t r, 0, v, h => ⟨x, t, rfl, (Option.some.inj h).symm⟩
  | _, _, .cons x t r, i + 1, v, h => strs_nth r i v h
/-- a new, empty set -/
abbrev bare (w : World) : Obj := { cls := .type "set", dict := none, data := .set #[] 0 (.fresh 0 0 (!w.params.followText "set-order")) }
theorem set_call {l : Addr} {items : Array Value} {xs : List Str} {Q : Value → Shared → Prop} (hh : A.handled = none) (hl : s.heap.IsList l items) (hi : StrsAre items.toList xs) (few : xs.length < 1000)
    (k : ∀ (h' : Heap) (tk : Nat), TxSet w h' s.heap.objs.size (met xs) → (∀ b o, s.heap.get? b = some o → h'.get? b = some o) → Q (.ref s.heap.objs.size) { s with heap := h', toks := tk }) :
    wpAny (model P w) A (call (.type "set") [.ref l]) Q E s := by
  have size : items.size = xs.length := by rw [← Array.length_toList]; exact hi.length
  obtain ⟨c, tl, m1⟩ := F.called_set.mro
  have m2 := F.called_set.made
  have m3 := F.called_set.sub
  have m4 := F.called_set.notType
  have m5 := F.called_set.canCreate
  have m6 := F.typeCall_set_1 (.ref l)
  refine wpAny_call (codeAny_of_tree (wpAny_pure ⟨Code.quiet_builtin _ (by decide +kernel), codeAny_builtin F.entry_type_call ?_⟩))
  rw [Around.under_plain (weight_type_call_type "set" [.ref l] []) rfl]
  repeat (any_goals (first | assumption | wp_step))
  refine codeAny_mono (code_set_led1 (.ref l) (E := E) (Q₁ := fun ob t => ob = .ref s.heap.objs.size ∧ t = { s with heap := s.heap.push (bare w) }) ⟨rfl, rfl⟩) fun r t hr => ?_
  match r, hr with
  | .error e, hr => exact hr
  | .ok (.ret ob), ⟨e1, e2⟩ =>
    subst e1 e2
    have at1 : (s.heap.push (bare w)).get? s.heap.objs.size = some (bare w) := Heap.get?_push_size _ rfl
    have ty1 : Shared.TypeIs { s with heap := s.heap.push (bare w) } (.ref s.heap.objs.size) "set" := ⟨_, at1, rfl⟩
    have m7 := F.called_set.init.lookup
    have m8 := F.called_set.init.bind (.ref s.heap.objs.size)
    repeat (any_goals (first | assumption | wp_step))
    refine codeAny_mono (codeAny_call_builtin (R := wants (fun r t => r = .none ∧ ∃ h' tk, t = { s with heap := h', toks := tk } ∧ TxSet w h' s.heap.objs.size (met xs) ∧ ∀ b o, s.heap.get? b = some o → h'.get? b = some o) E) F.called_set.init.plain F.entry_set_init (check_set_init_1 ty1 ?_)) fun r2 t2 hr2 => ?_
    · obtain ⟨⟨oc, od, oda, os⟩, ol, c1, nl, c2⟩ := hl
      simp only at c1 c2
      subst c1 c2
      have ol1 : (s.heap.push (bare w)).get? l = some { cls := .type "list", dict := od, data := .seq items nl, slots := os } := Heap.get?_push_of_some _ ol
      have m9 := F.sub_list_set
      have m10 := F.sub_list_frozenset
      have m11 : (Value.type "list" == Value.type "dict") = false := by decide
      have isl : (s.heap.push (bare w)).IsList l items := ⟨_, ol1, rfl, nl, rfl⟩
      unfold Builtin.«set.__init__» noKeywords Builtin.Frozenset.updateFrom
      generalize eI : pyIter = It
      wp_walk
      subst eI
      refine wpAny_pyIter_list isl (wpAny_bind (wpAny_runValue ?_))
      have lt : l < s.heap.objs.size := Heap.lt_size ol
      have big : (s.heap.push (bare w)).objs.size = s.heap.objs.size + 1 := Heap.size_push ..
      refine goOn ((Walks.list (by simp [hh]) _ l (by rw [big]; exact Nat.ne_of_lt (Nat.lt_succ_of_lt lt)) items).toS) s.heap.objs.size (by rw [big]; simp only [List.mem_cons, List.not_mem_nil, or_false, not_or]; exact ⟨Nat.ne_of_lt (Nat.lt_succ_self _), Nat.ne_of_gt lt⟩) xs few size (fun i v hv => strs_nth hi i v (by rw [Array.getElem?_toList]; exact hv)) items.size 0 _ (by omega)
        ⟨⟨_, Heap.get?_push_size _ rfl, rfl, rfl⟩, isl.push _⟩ ((fresh (h := s.heap) w).at fun o ho => Heap.get?_push_of_some _ ho) fun t mv R => ?_
      obtain ⟨h', g2, d2, tk, o2⟩ := t
      obtain rfl : g2 = s.gens := mv.gens
      obtain rfl : d2 = s.drawn := mv.drawn
      obtain rfl : o2 = s.os := mv.os
      refine wpAny_pure (wpAny_pure ⟨rfl, h', tk, rfl, R, fun b o ho => ?_⟩)
      have lb := Heap.lt_size ho
      exact mv.heap b o (by rw [big]; simp only [List.mem_cons, List.not_mem_nil, or_false, not_or]; exact ⟨Nat.ne_of_lt lb, Nat.ne_of_lt (Nat.lt_succ_of_lt lb)⟩) (Heap.get?_push_of_some _ (Heap.get?_push_of_some _ ho))
    · match r2, hr2 with
      | .error e, hr2 => exact hr2
      | .ok (.ret r), ⟨e1, h', tk, e2, R, keep⟩ =>
        subst e1 e2
        repeat (any_goals (first | assumption | wp_step))
        exact k _ _ R keep
end
section
variable {X : Cx}
def rSetX (K : PySem.W.Frag) (w : World) : List V → Hp → VK → Prop := fun vs H Q => ∃ (l : Addr) (xs : List Str), vs = [.ref l] ∧ SqL K H l (xs.map V.str) ∧ xs.length < 1000 ∧ ∀ a, H a = none → Q (.ref a) (upd H a (SetX w a (met xs)))
theorem cr_setX (hc : X.calm = true) : CallR X (.type "set") (rSetX X.K X.w) := by
  intro pins s σ H vs us Q I r h
  obtain ⟨l, xs, rfl, hl, few, q⟩ := h
  rw [Vals.ref1 r]
  obtain ⟨its, rv, pl, hz⟩ := I.list hl
  refine set_call (P := X.prog) (w := X.w) (xs := xs) (I.ok.hd hc) pl.isList (by simpa using strs_of_vals rv) few fun h' tk R keep => ?_
  exact ⟨.ref s.heap.objs.size, upd H s.heap.objs.size (SetX X.w s.heap.objs.size (met xs)), I.laid (t' := tk) keep (Nat.le_refl _) (setX_new R), rfl, q _ (I.hok.fresh (Nat.le_refl _))⟩
/-- list(e.values()) -/
def tListVals (te : TE) : TE := fun σ H Q => te σ H fun x H1 => ∃ (d : Addr) (kvs : List (Key × V)), x = .ref d ∧ H1 d = some (.dK kvs) ∧ ∀ p, H1 p = none → Q (.ref p) (upd H1 p (.lst (kvs.map (·.2))))
theorem pe_listVals {e : Expr} {te : TE} {p apos cpos pos : Pos} (hc : X.calm = true) (he : PE X e te) (hg : Gl X "list") (hm : X.mg "list" = none) (hv : bootBuiltins "list" = some (.type "list") := by decide +kernel) (hb : attributeBase e "values" X.env (eval e X.env) = eval e X.env := by rfl)
    (hline : (apos.endLine == cpos.line) = true := by rfl) (hs : starEach [.Call (.Attribute e "values" apos) [] [] cpos] X.env = (false, eval (.Call (.Attribute e "values" apos) [] [] cpos) X.env) :: starEach [] X.env := by rfl) :
    PE X (.Call (.Name "list" p) [.Call (.Attribute e "values" apos) [] [] cpos] [] pos) (tListVals te) := by
  refine ⟨fun pins s σ H Q I q => wpAny_Call_Name_kw (ld_blt I hg hm hv (PyProof.Rows.callWith_type1 ?_ hs rfl))⟩
  rw [hs]
  refine Calls.spliced_cons (wpAny_Call_method (T := "dict") (id := "dict.values") hb rfl hline F.plainAttrs_dict F.slot_dict_values F.type_dict_values (thn (he.run pins s σ H _ I q) fun u s1 ⟨x, H1, I1, rx, d, kvs, ex, hd, q⟩ => ?_))
  subst ex
  obtain rfl : u = Value.ref d := rx
  obtain ⟨hz, lo, vs, kv, hdo⟩ := I1.hok d _ hd
  obtain ⟨ep, hat⟩ := hdo.dictAt
  refine ⟨hdo.typeIs, hdo.mapOf.noDict, method_meetsIn F.slot_dict_values F.entry_dict_values rfl (PySem.evalArgs_none ⟨rfl, hdo.typeIs, F.args_dict_values_1 _, _, meets_dict_values (mixKind X.prog X.w) d lo, ⟨vs, hdo⟩, Calls.spliced_nil ?_⟩)⟩
  have I2 : Inv X pins σ H1 { s1 with heap := s1.heap.push { cls := .type "dict_values", data := .fields #[.ref d] } } := I1.kept (t' := s1.toks) fun b ob q => Heap.get?_push_of_some _ q
  have len : kvs.length = vs.length := Paired.length kv
  refine kdl_call (kdl_values (knd := mixKind X.prog X.w) (kvs := vs) (ep := ep)) (I1.ok.hd hc) ⟨⟨_, Heap.get?_push_size _ rfl, rfl, rfl⟩, hat.push _⟩ (by omega) fun h' tk acc c keep hS its => ?_
  have acc_eq : acc.toList = vs.map (·.2) := kdl_vals_eq acc.toList (by rw [Array.length_toList]; exact its.1) fun j v hj => its.2 j v (by rw [← Array.getElem?_toList]; exact hj)
  have vals : Vals (kvs.map (·.2)) acc.toList := by
    rw [acc_eq]
    clear acc_eq its hS len q hat hd hdo I2 hz
    induction kv with
    | nil => exact .nil
    | cons r t ih => exact .cons r.2 ih
  exact ⟨.ref _, upd H1 _ (.lst (kvs.map (·.2))), I2.laid (t' := tk) keep (Nat.le_refl _) ⟨by rw [List.length_map]; omega, acc.toList, c, vals, hS⟩, rfl, q _ (I2.hok.fresh (Nat.le_refl _))⟩
end
end TxS
set_option Elab.async false
set_option linter.all false
set_option maxRecDepth 100000
set_option maxHeartbeats 4000000
namespace KT
open PySem L2 PyProof.Rows DTp TxS
def dkv (dl : List (Str × Str)) : List (Key × V) := dl.map fun p => (Sum.inr p.1, V.str p.2)
def keysD (dl : List (Str × Str)) : List Str := dl.map (·.1)
def kof (dl : List (Str × Str)) (x : Str) : Str := ((dl.find? fun p => decide (p.1 = x)).map (·.2)).getD ⟨#[]⟩
theorem dkv_keys (dl : List (Str × Str)) : (dkv dl).map (·.1) = (keysD dl).map Sum.inr := by
  unfold dkv keysD
  rw [List.map_map, List.map_map]
  rfl
theorem dkv_len (dl : List (Str × Str)) : (dkv dl).length = dl.length := by unfold dkv; rw [List.length_map]
theorem keysD_len (dl : List (Str × Str)) : (keysD dl).length = dl.length := by unfold keysD; rw [List.length_map]
theorem kof_cons (p : Str × Str) (dl : List (Str × Str)) (x : Str) : kof (p :: dl) x = if p.1 = x then p.2 else kof dl x := by
  unfold kof
  rw [List.find?_cons]
  by_cases h : p.1 = x
  · rw [decide_eq_true h, if_pos h]; rfl
  · rw [decide_eq_false h, if_neg h]
theorem kof_mem : ∀ {dl : List (Str × Str)}, (keysD dl).Nodup → ∀ {p : Str × Str}, p ∈ dl → kof dl p.1 = p.2
  | [], _, p, h => by cases h
  | q :: dl, n, p, h => by
    rw [kof_cons]
    have n2 := List.nodup_cons.mp (show (q.1 :: keysD dl).Nodup from n)
    rcases List.mem_cons.mp h with rfl | h
    · rw [if_pos rfl]
    · rw [if_neg (fun e => n2.1 (by rw [e]; exact List.mem_map.mpr ⟨p, h, rfl⟩))]
      exact kof_mem n2.2 h
theorem kof_pair {dl : List (Str × Str)} (n : (keysD dl).Nodup) {x : Str} (h : x ∈ keysD dl) : (x, kof dl x) ∈ dl := by
  obtain ⟨p, hp, rfl⟩ := List.mem_map.mp h
  rw [kof_mem n hp]
  exact hp
theorem valV_dkv {dl : List (Str × Str)} (n : (keysD dl).Nodup) {x : Str} (h : x ∈ keysD dl) : valV (dkv dl) (Sum.inr x) = some (.str (kof dl x)) := by
  refine valV_mem ?_ ?_
  · rw [dkv_keys]
    exact List.pairwise_map.mpr (List.Pairwise.imp (fun {a b} (ne : a ≠ b) e => ne (Sum.inr.inj e)) n)
  · exact List.mem_map.mpr ⟨(x, kof dl x), kof_pair n h, rfl⟩
theorem perm_keys {d1 d2 : List (Str × Str)} (p : d1.Perm d2) : (keysD d1).Perm (keysD d2) := p.map _
theorem kof_perm {d1 d2 : List (Str × Str)} (p : d1.Perm d2) (n : (keysD d2).Nodup) {x : Str} (h : x ∈ keysD d2) : kof d1 x = kof d2 x := by
  have n1 : (keysD d1).Nodup := (perm_keys p).nodup_iff.mpr n
  exact kof_mem n1 (p.mem_iff.mpr (kof_pair n h))
/-- the list that the dict is, by its keys -/
theorem by_keys {dl : List (Str × Str)} (n : (keysD dl).Nodup) : (keysD dl).map (fun x => (x, kof dl x)) = dl := by
  unfold keysD
  rw [List.map_map]
  conv => rhs; rw [← List.map_id dl]
  refine List.map_congr_left fun p hp => ?_
  show (p.1, kof dl p.1) = p
  rw [kof_mem n hp]
theorem dkv_of {dl : List (Str × Str)} (n : (keysD dl).Nodup) : (keysD dl).map (fun x => ((Sum.inr x : Key), V.str (kof dl x))) = dkv dl := by
  have h := congrArg dkv (by_keys n)
  rw [← h]
  unfold dkv
  rw [List.map_map]
  rfl
theorem inr_nodup {α β : Type} {xs : List β} (h : xs.Nodup) : (xs.map (Sum.inr : β → α ⊕ β)).Nodup := List.pairwise_map.mpr (List.Pairwise.imp (fun {a b} (ne : a ≠ b) e => ne (Sum.inr.inj e)) h)
/-- a dict made of new keys is their list -/
theorem mergeK_strs {xs : List Str} {val : Str → V} (n : xs.Nodup) : mergeK [] (xs.map fun x => ((Sum.inr x : Key), val x)) = xs.map fun x => (Sum.inr x, val x) := by
  rw [mergeK_nd _ _ (by
    rw [List.nil_append, List.map_map]
    exact inr_nodup n)]
  rfl
theorem mergeK_snoc : ∀ (xs kvs : List (Key × V)) (p : Key × V), mergeK kvs (xs ++ [p]) = putK (mergeK kvs xs) p.1 p.2 := fun xs kvs p => by
  unfold mergeK
  rw [List.foldl_append]
  rfl
section
variable {K : PySem.W.Frag}
/-- [true for key in d] -/
theorem lkK_true {te0 : TE} {g : TG} {te : TE} {vs : List Nat} {σ : L2.St} {H : Hp} {Q : VK} {d : Addr} {kvs : List (Key × V)} (hi : ∀ od (R : VK), R (.ref d) (upd H d (.frz od (.dK kvs))) → te0 σ (upd H d (.frz od (.dK kvs))) R) (hd : H d = some (.dK kvs)) (few : kvs.length ≤ 1000)
    (step : ∀ (i : Nat) k v od H1 (R : VK), kvs[i]? = some (k, v) → L2.Same (upd H d (.frz od (.dK kvs))) H1 → (∀ H3, L2.Same H1 H3 → R (.bl true) H3) → g (kV k) (wipe σ vs) H1 fun σ2 H2 => wipe σ2 vs = wipe σ vs ∧ te σ2 H2 R)
    (k : ∀ D H', L2.Same H H' → H' D = some (.lst ((List.replicate kvs.length true).map V.bl)) → Q (.ref D) H') :
    tLockE (tLc (iKeys te0) g tYes te vs) σ H Q := by
  refine ⟨d, .dK kvs, hd, trivial, fun od => ?_⟩
  refine hi od _ ⟨d, od, rfl, .inl ⟨kvs, upd_same, fun D hD => ?_⟩⟩
  have nDd : D ≠ d := fun e => by rw [e, upd_same] at hD; cases hD
  refine lc_true walk_keys few hD (fun H' s => s _ _ upd_same) ?_ ?_
  · rintro i x H1 H1' R hi s1 ⟨rfl, kk, v, hk, rfl⟩ kR
    exact step i kk v od _ R hk s1 kR
  · intro H1 s1 hD1
    have hdl : H1 d = some (.frz od (.dK kvs)) := s1 _ _ upd_same
    refine ⟨hdl, k D _ (fun b o e => ?_) ((upd_ne nDd).trans hD1)⟩
    by_cases hb : b = d
    · rw [hb] at e ⊢
      rw [hd] at e
      rw [upd_same]; exact e
    · rw [upd_ne hb]
      exact s1 _ _ ((upd_ne hb).trans e)
/-- [true for value in d.values()] -/
theorem lkV_true {te0 : TE} {g : TG} {te : TE} {vs : List Nat} {σ : L2.St} {H : Hp} {Q : VK} {d : Addr} {kvs : List (Key × V)} (hi : ∀ od (R : VK), R (.ref d) (upd H d (.frz od (.dK kvs))) → te0 σ (upd H d (.frz od (.dK kvs))) R) (hd : H d = some (.dK kvs)) (few : kvs.length ≤ 1000)
    (step : ∀ (i : Nat) k v od H1 (R : VK), kvs[i]? = some (k, v) → L2.Same (upd H d (.frz od (.dK kvs))) H1 → (∀ H3, L2.Same H1 H3 → R (.bl true) H3) → g v (wipe σ vs) H1 fun σ2 H2 => wipe σ2 vs = wipe σ vs ∧ te σ2 H2 R)
    (k : ∀ D H', L2.Same H H' → H' D = some (.lst ((List.replicate kvs.length true).map V.bl)) → Q (.ref D) H') :
    tLockE (tLc (iVals te0) g tYes te vs) σ H Q := by
  refine ⟨d, .dK kvs, hd, trivial, fun od => ?_⟩
  refine hi od _ ⟨d, od, kvs, rfl, upd_same, fun D hD => ?_⟩
  have nDd : D ≠ d := fun e => by rw [e, upd_same] at hD; cases hD
  refine lc_true walk_values few hD (fun H' s => s _ _ upd_same) ?_ ?_
  · rintro i x H1 H1' R hi s1 ⟨rfl, kk, hk⟩ kR
    exact step i kk x od _ R hk s1 kR
  · intro H1 s1 hD1
    have hdl : H1 d = some (.frz od (.dK kvs)) := s1 _ _ upd_same
    refine ⟨hdl, k D _ (fun b o e => ?_) ((upd_ne nDd).trans hD1)⟩
    by_cases hb : b = d
    · rw [hb] at e ⊢
      rw [hd] at e
      rw [upd_same]; exact e
    · rw [upd_ne hb]
      exact s1 _ _ ((upd_ne hb).trans e)
/-- {key: value for text in list} -/
theorem dcS_list {key : Str → Str} {val : Str → V} {tl tk tv : TE} {tg iter : Expr} {ifs : List Expr} {g : TG} {vs : List Nat} {σ : L2.St} {H : Hp} {Q : VK} {xs : List Str} (Pd : Addr → Hp → Prop) (few : xs.length ≤ 1000)
    (hl : ∀ R : VK, (∀ l H1, H1 l = some (.lst (xs.map V.str)) → Pd l H1 → R (.ref l) H1) → tl σ H R)
    (step : ∀ l x H1 H2 (R : V → V → Hp → Prop) (Cn : L2.St → Hp → Prop), (∀ σ2 H3, (tk σ2 H3 fun y H4 => tv σ2 H4 fun z H5 => R y z H5) → Cn σ2 H3) → x ∈ xs → Pd l H1 → L2.Same H1 H2 → (∀ H3, L2.Same H2 H3 → R (.str (key x)) (val x) H3) → g (.str x) (wipe σ vs) H2 fun σ2 H3 => wipe σ2 vs = wipe σ vs ∧ Cn σ2 H3)
    (k : ∀ q l H1 H', Pd l H1 → L2.Same H1 H' → H1 q = none → H' q = some (.dK (mergeK [] (xs.map fun x => (Sum.inr (key x), val x)))) → Q (.ref q) H') :
    GC.tCo (fun _ => .dK []) ⟨tg, iter, ifs, iList K tl, g, tYes, vs⟩ [] (GC.emK tk tv) σ H Q := by
  refine hl _ fun l H1 h1 pd => ?_
  refine ⟨l, rfl, ⟨_, SqL.of h1⟩, fun D hD => ?_⟩
  refine GC.lp_it (walk_list (K := K) (a := l) (xs := xs.map V.str)) (fun n H' => L2.Same H1 H' ∧ H' D = some (.dK (mergeK [] ((xs.take n).map fun x => (Sum.inr (key x), val x))))) ?_ ?_ ?_ ?_
  · exact ⟨Same.new hD, upd_same⟩
  · rintro i H2 _ ⟨s2, _⟩
    exact SqL.of (s2 _ _ h1)
  · rintro n x H0 H2 hn ⟨s2, hD2⟩ ⟨rfl, hx⟩
    obtain ⟨y, ey, rfl⟩ := str_get hx
    refine step l y H1 _ (fun a z H3 => ∃ (kvs2 : List (Key × V)) (k : Key), a = kV k ∧ H3 D = some (.dK kvs2) ∧ kvs2.length < sizeLine ∧ (L2.Same H1 (upd H3 D (.dK (putK kvs2 k z))) ∧ (upd H3 D (.dK (putK kvs2 k z))) D = some (.dK (mergeK [] ((xs.take (n + 1)).map fun x => (Sum.inr (key x), val x)))))) _ (fun σ2 H3 hh => hh) (List.mem_of_getElem? ey) pd s2 fun H3 s3 => ?_
    refine ⟨_, Sum.inr (key y), rfl, s3 _ _ hD2, ?_, fun c o e => ?_, ?_⟩
    · have := length_mergeK ((xs.take n).map fun x => ((Sum.inr (key x) : Key), val x)) []
      rw [List.length_map, List.length_take, List.length_nil] at this
      exact small1000 (by omega)
    · rw [upd_ne (ne_of_none e hD)]
      exact s3 _ _ (s2 _ _ e)
    · rw [upd_same, take_next' ey, List.map_append]
      exact congrArg (fun z => some (HO.dK z)) (mergeK_snoc ((xs.take n).map fun x => ((Sum.inr (key x) : Key), val x)) [] (Sum.inr (key y), val y)).symm
  · rintro H2 ⟨s2, hD2⟩
    rw [List.length_map, List.take_length] at hD2
    exact k D l H1 H2 pd s2 hD hD2
end
/-- deeds with their kinds, in any order -/
structure DlOk (ws : List Str) (dl : List (Str × Str)) : Prop where
  nd : (keysD dl).Nodup
  wd : ∀ x ∈ keysD dl, Wd x
  few : dl.length ≤ 8
  kd : ∀ p ∈ dl, p.2 ∈ ws
  all : ∀ x ∈ ws, ∃ p ∈ dl, p.2 = x
theorem DlOk.perm {ws : List Str} {d1 d2 : List (Str × Str)} (h : DlOk ws d2) (p : d1.Perm d2) : DlOk ws d1 :=
  ⟨(perm_keys p).nodup_iff.mpr h.nd, fun x hx => h.wd x ((perm_keys p).mem_iff.mp hx), by rw [p.length_eq]; exact h.few, fun q hq => h.kd q (p.mem_iff.mp hq), fun x hx => let ⟨q, m, e⟩ := h.all x hx; ⟨q, p.mem_iff.mpr m, e⟩⟩
theorem DlOk.kof {ws : List Str} {dl : List (Str × Str)} (h : DlOk ws dl) {x : Str} (hx : x ∈ keysD dl) : kof dl x ∈ ws := h.kd _ (kof_pair h.nd hx)
/-- kinds that may be done twice -/
structure TwOk (ws : List Str) (f : Str → Str → Str) (tw : List Str) : Prop where
  asc : Asc tw
  sq : ∀ x ∈ tw, x ∈ sqs ws f
theorem TwOk.len {ws : List Str} {f : Str → Str → Str} {tw : List Str} (h : TwOk ws f tw) (kw : KW ws f) : tw.length ≤ 4 :=
  Nat.le_trans (List.Nodup.length_le_of_subset h.asc.nodup fun x hx => (List.mem_filter.mp (h.sq x hx)).1) kw.few
theorem s_kd : ¬ (("_kinds" : Str) = "_deeds") := by decide +kernel
theorem s_kt : ¬ (("_kinds" : Str) = "_twice") := by decide +kernel
theorem s_dt : ¬ (("_deeds" : Str) = "_twice") := by decide +kernel
def sflds (p d l : Addr) : List (Str × V) := putF "_twice" (.ref l) (putF "_deeds" (.ref d) (putF "_kinds" (.ref p) []))
theorem sflds_k (p d l : Addr) : (sflds p d l).lookup ("_kinds" : Str) = some (.ref p) := by
  unfold sflds
  rw [lookup_putF, if_neg s_kt, lookup_putF, if_neg s_kd, lookup_putF, if_pos rfl]
theorem sflds_d (p d l : Addr) : (sflds p d l).lookup ("_deeds" : Str) = some (.ref d) := by
  unfold sflds
  rw [lookup_putF, if_neg s_dt, lookup_putF, if_pos rfl]
theorem sflds_t (p d l : Addr) : (sflds p d l).lookup ("_twice" : Str) = some (.ref l) := by
  unfold sflds
  rw [lookup_putF, if_pos rfl]
theorem sflds_no (p d l : Addr) {m : Str} (h1 : ¬ m = "_twice") (h2 : ¬ m = "_deeds") (h3 : ¬ m = "_kinds") : (sflds p d l).lookup m = none := by
  unfold sflds
  rw [lookup_putF, if_neg h1, lookup_putF, if_neg h2, lookup_putF, if_neg h3]
  all_goals rfl
/-- where a Setting's parts stand: itself, its Kinds, the Kinds' dict and list, its dict and list -/
structure SA where
  q : Addr
  dx : Addr
  p : Addr
  kx : Addr
  kd : Addr
  kl : Addr
  d : Addr
  l : Addr
def SA.all (A : SA) : List Addr := [A.q, A.p, A.kd, A.kl, A.d, A.l]
structure StIn (S C : Addr) (H : Hp) (A : SA) (ws : List Str) (f : Str → Str → Str) (dl : List (Str × Str)) (tw : List Str) : Prop where
  ob : H A.q = some (.ins S A.dx (sflds A.p A.d A.l))
  kin : KdIn C H A.p A.kx A.kd A.kl ws f
  dc : H A.d = some (.dK (dkv dl))
  ls : H A.l = some (.lst (tw.map V.str))
  ok : DlOk ws dl
  asc : Asc (keysD dl)
  tok : TwOk ws f tw
section
variable {S C : Addr} {ws : List Str} {f : Str → Str → Str} {dl : List (Str × Str)} {tw : List Str}
theorem StIn.mono {H H' : Hp} {A : SA} (s : L2.Same H H') (h : StIn S C H A ws f dl tw) : StIn S C H' A ws f dl tw :=
  ⟨s _ _ h.ob, ⟨s _ _ h.kin.ob, s _ _ h.kin.dc, s _ _ h.kin.ls, h.kin.kw⟩, s _ _ h.dc, s _ _ h.ls, h.ok, h.asc, h.tok⟩
theorem StIn.but {H H' : Hp} {A : SA} {z : Addr} (h : StIn S C H A ws f dl tw) (b : But z H H') (n : z ∉ A.all) : StIn S C H' A ws f dl tw := by
  simp only [SA.all, List.mem_cons, List.not_mem_nil, or_false, not_or] at n
  obtain ⟨n1, n2, n3, n4, n5, n6⟩ := n
  exact ⟨b _ _ (Ne.symm n1) h.ob, ⟨b _ _ (Ne.symm n2) h.kin.ob, b _ _ (Ne.symm n3) h.kin.dc, b _ _ (Ne.symm n4) h.kin.ls, h.kin.kw⟩, b _ _ (Ne.symm n5) h.dc, b _ _ (Ne.symm n6) h.ls, h.ok, h.asc, h.tok⟩
theorem StIn.some {H : Hp} {A : SA} (h : StIn S C H A ws f dl tw) : ∀ z ∈ A.all, H z ≠ none := by
  intro z hz e
  simp only [SA.all, List.mem_cons, List.not_mem_nil, or_false] at hz
  rcases hz with rfl | rfl | rfl | rfl | rfl | rfl
  · rw [h.ob] at e; cases e
  · rw [h.kin.ob] at e; cases e
  · rw [h.kin.dc] at e; cases e
  · rw [h.kin.ls] at e; cases e
  · rw [h.dc] at e; cases e
  · rw [h.ls] at e; cases e
theorem StIn.new {H : Hp} {A : SA} (h : StIn S C H A ws f dl tw) {z : Addr} (hz : H z = none) : z ∉ A.all := fun m => h.some z m hz
theorem StIn.kdAt {H : Hp} {A : SA} (h : StIn S C H A ws f dl tw) : KdAt C H A.p ws f := ⟨_, _, _, h.kin⟩
theorem PurseAt.strs {H : Hp} {p l : Addr} {B : Int} {xs : List Str} (hP : PurseAt H p B) (h : H l = .some (.lst (xs.map V.str))) : p ≠ l := by
  rintro rfl
  obtain ⟨a, b, c, d, e, _⟩ := hP
  rw [h] at e
  cases xs with
  | nil => cases e
  | cons x xs => cases e
theorem StIn.purse {H : Hp} {A : SA} {p : Addr} {B : Int} (h : StIn S C H A ws f dl tw) (hP : PurseAt H p B) : p ∉ A.all := by
  obtain ⟨a, b, c, d, e, _⟩ := id hP
  intro m
  simp only [SA.all, List.mem_cons, List.not_mem_nil, or_false] at m
  rcases m with rfl | rfl | rfl | rfl | rfl | rfl
  · rw [h.ob] at e; cases e
  · rw [h.kin.ob] at e; cases e
  · rw [h.kin.dc] at e; cases e
  · exact hP.strs h.kin.ls rfl
  · rw [h.dc] at e; cases e
  · exact hP.strs h.ls rfl
/-- a dict that is frozen is none of a Kinds' parts -/
theorem KdAt.frz {H : Hp} {p d : Addr} {kvs : List (Key × V)} {o : HO} (h : KdAt C H p ws f) (hd : H d = .some (.dK kvs)) : KdAt C (upd H d o) p ws f := by
  obtain ⟨dx, t, l, k⟩ := h
  refine ⟨dx, t, l, (upd_ne fun e => ?_).trans k.ob, (upd_ne fun e => ?_).trans k.dc, (upd_ne fun e => ?_).trans k.ls, k.kw⟩
  · have z := k.ob; rw [e, hd] at z; cases z
  · have z := k.dc; rw [e, hd] at z; cases z
  · have z := k.ls; rw [e, hd] at z; cases z
end
end KT
set_option Elab.async false
set_option linter.all false
set_option maxRecDepth 100000
set_option maxHeartbeats 4000000
namespace KT
open PySem L2 PyProof.Rows DTp TxS
section
variable {X : Cx} {w : World}
theorem cr_setXw (hc : X.calm = true) (e : X.w = w) : CallR X (.type "set") (rSetX X.K w) := by subst e; exact cr_setX hc
theorem cr_sortXw (hc : X.calm = true) (e : X.w = w) : CallR X (.builtin "sorted") (rSortX w) := by subst e; exact cr_sortX hc
end
section
variable {P : Program} {w : World} {K : PySem.W.Frag} {mg : Str → Option Value} {base : Heap} {C S : Addr}
theorem eqvAll_strs : ∀ xs ys : List Str, PyData.eqvAll (xs.map PyData.str) (ys.map PyData.str) = decide (xs = ys)
  | [], [] => by simp [PyData.eqvAll]
  | [], y :: ys => by simp [PyData.eqvAll]
  | x :: xs, [] => by simp [PyData.eqvAll]
  | x :: xs, y :: ys => by
    rw [List.map_cons, List.map_cons, PyData.eqvAll, eqvAll_strs xs ys, PyData.eqv]
    by_cases h : x = y
    · subst h; simp
    · rw [beq_eq_false_iff_ne.mpr h, Bool.false_and, decide_eq_false]
      intro e
      exact h (List.cons.inj e).1
theorem eqv_strs (xs ys : List Str) : PyData.eqv (.list (xs.map PyData.str)) (.list (ys.map PyData.str)) = decide (xs = ys) := by
  rw [PyData.eqv]
  exact eqvAll_strs xs ys
def spIsAsc : Sp := fun vs H Q _ => ∃ (l : Addr) (xs : List Str), vs = [.ref l] ∧ H l = some (.lst (xs.map V.str)) ∧ Asc xs ∧ xs.length ≤ 900 ∧ ∀ H', L2.Same H H' → Q (.bl true) H'
abbrev nIsAsc : List Str := ["words", "one", "other"]
theorem scIsAsc : FnScope nIsAsc ["words"] (defScope pIsAsc) := ⟨rfl, rfl, rfl, by decide +kernel, rfl, by decide +kernel, by decide +kernel⟩
theorem cut_tail' (xs : List V) : cutV xs (some 1) none = xs.drop 1 := by
  cases xs with
  | nil => rfl
  | cons x xs => rw [cut_tail]; rfl
theorem ok_isAsc {g : Addr} {fd : FuncData} (F : Fun K "is_ascending" "is_ascending" pIsAsc g fd) (Z : Blp mg) (hz : mg "zip" = none) : FnOk P w K mg base CX0 1 g fd ["words"] spIsAsc := by
  refine F.ok scIsAsc (fun vs H Q E h => ?_) (fun cdv A outer s H vs Q E hr h => ?_)
  · obtain ⟨l, xs, rfl, _⟩ := h
    rfl
  · obtain ⟨l, xs, rfl, hl, asc, few, k⟩ := h
    have nd := scIsAsc.nd
    refine ⟨_, pss_one (ps_ret (pe_callB (cr_all rfl) (by rfl) Z.all (by decide +kernel) (pa_cons
        (pe_lc (own := [("one", 1), ("other", 2)]) (g := gXY K 1 2) (tt := tYes) (te := tOp (fun x y H Q => ∃ i j, x = .str i ∧ y = .str j ∧ Q (.bl (decide (i.cps.toList < j.cps.toList))) H) (tVar 1) (tVar 2)) rfl nd (pi_zip (by rfl) hz (pa_cons (pv 0) (pa_cons (pe_slice sl_list (pv 0) (po_some pe_int) po_none) pa_nil))) (blkOk_by (own := [("one", 1), ("other", 2)]) (N := nIsAsc) (sc := defScope pIsAsc) (by decide +kernel))
            (fun _ _ _ _ _ => pg_tup rfl (pgs_cons (pg_name (i := 1) nd rfl (Or.inl rfl)) (pgs_cons (pg_name (i := 2) nd rfl (Or.inl rfl)) pgs_nil))) (fun _ _ _ _ _ => pts_nil) (fun _ _ _ _ _ => pe_cmpR op_lt_str (pv 1) (pv 2) (nomark _))) pa_nil))), ?_⟩
    refine ⟨_, rfl, _, rfl, _, rfl, l, _, rfl, SqL.of hl, fun t ht => ?_⟩
    rw [cut_tail', ← List.map_drop]
    have s1 := Same.new (H := H) (o := .lst ((xs.drop 1).map V.str)) ht
    have ht1 : upd H t (.lst ((xs.drop 1).map V.str)) t = _ := upd_same
    generalize upd H t (.lst ((xs.drop 1).map V.str)) = H1 at s1 ht1 ⊢
    refine ⟨l, t, xs.map V.str, (xs.drop 1).map V.str, rfl, SqL.of (s1 _ _ hl), SqL.of ht1, fun D hD => ?_⟩
    refine lc_true (walk_zip rfl) (by rw [List.length_map]; omega) hD (fun H' s => ⟨SqL.of (s _ _ (s1 _ _ hl)), SqL.of (s _ _ ht1)⟩) ?_ ?_
    · rintro i x H2 H2' R hi s2 hY kR
      obtain ⟨q, a, b, rfl, hq, rfl, ha, hb⟩ := hY
      obtain ⟨x, ex, rfl⟩ := str_get ha
      obtain ⟨y, ey, rfl⟩ := str_get hb
      have s3 := Same.new (H := H2) (o := .tup [.str x, .str y]) hq
      refine ⟨q, _, rfl, SqT.of upd_same, rfl, _, _, rfl, at_name (σ' := [some (.ref l), some (.str x), none]) rfl ⟨_, _, rfl, at_name (σ' := [some (.ref l), some (.str x), some (.str y)]) rfl ⟨rfl, rfl, ?_⟩⟩⟩
      refine ⟨_, rfl, _, rfl, x, y, rfl, rfl, ?_⟩
      have lt : ltT x y := by
        rw [List.getElem?_drop] at ey
        obtain ⟨i1, e1⟩ := List.getElem?_eq_some_iff.mp ex
        obtain ⟨i2, e2⟩ := List.getElem?_eq_some_iff.mp ey
        have := List.pairwise_iff_getElem.mp asc i (1 + i) i1 i2 (by omega)
        rw [e1, e2] at this
        exact this
      rw [decide_eq_true (show x.cps.toList < y.cps.toList from lt)]
      exact kR _ s3
    · intro H2 s2 hD2
      refine ⟨D, _, rfl, SqL.of hD2, ?_⟩
      rw [all_true]
      exact k _ (s1.trans s2)
def spAreDeeds (C : Addr) : Sp := fun vs H Q _ => ∃ (p d : Addr) (ws : List Str) (f : Str → Str → Str) (dl : List (Str × Str)), vs = [.ref p, .ref d] ∧ KdAt C H p ws f ∧ H d = some (.dK (dkv dl)) ∧ DlOk ws dl ∧ ∀ H', L2.Same H H' → Q (.bl true) H'
abbrev nAreDeeds : List Str := ["kinds", "deeds", "deed", "kind"]
theorem scAreDeeds : FnScope nAreDeeds ["kinds", "deeds"] (defScope pAreDeeds) := ⟨rfl, rfl, rfl, by decide +kernel, rfl, by decide +kernel, by decide +kernel⟩
structure DeedsC (P : Program) (w : World) (K : PySem.W.Frag) (mg : Str → Option Value) (base : Heap) (C : Addr) : Prop where
  wrd : Cee P w K mg base 1 "is_word" ["value"] spIsWord
  isk : Cee P w K mg base 2 "is_kind" ["kinds", "value"] (spIsKind C)
  isl : Cee P w K mg base 3 "is_list_of_kinds" ["kinds", "value"] (spIsKinds C)
  asc : Cee P w K mg base 1 "is_ascending" ["words"] spIsAsc
  osq : Cee P w K mg base 5 "own_squares" ["kinds"] (spOwnSq C)
  chk : Cee P w K mg base 1 "check_kinds" ["kinds"] (spCheckKinds C)
  wor : Mee P w K mg base C 1 "words" ["self"] (spKWords C)
  hset : mg "set" = none
theorem ok_areDeeds {g : Addr} {fd : FuncData} (F : Fun K "_are_deeds" "_are_deeds" pAreDeeds g fd) (T : KTx K mg C) (Z : Blp mg) (M : DeedsC P w K mg base C) : FnOk P w K mg base CX0 3 g fd ["kinds", "deeds"] (spAreDeeds C) := by
  refine F.ok scAreDeeds (fun vs H Q E h => ?_) (fun cdv A outer s H vs Q E hr h => ?_)
  · obtain ⟨p, d, ws, f, dl, rfl, _⟩ := h
    rfl
  · obtain ⟨p, d, ws, f, dl, rfl, kd, hd, ok, k⟩ := h
    have nd := scAreDeeds.nd
    refine ⟨_, pss_cons (ps_if (pt_cut <| PW.pt (pw_or (pt_not (pt_val (pe_callB call_isi (by rfl) Z.isi boot_isi (pa_cons (pv 1) (pa_cons (pe_bltn (v := .ty "dict") (by rfl) Z.dict (by decide +kernel) rfl) pa_nil)))))
          (pw_or1 (pt_not (pt_val (pe_callB (cr_all rfl) (by rfl) Z.all (by decide +kernel) (pa_cons (pe_lock
            (pe_lc (own := [("deed", 2)]) (g := gName 2) (tt := tYes) (te := tCall spIsWord [] E0 (tCons (tVar 2) tNil)) rfl nd (pi_keys (pv 1)) (blkOk_by (own := [("deed", 2)]) (N := nAreDeeds) (sc := defScope pAreDeeds) (by decide +kernel))
              (fun _ _ _ _ _ => pg_name (i := 2) nd rfl (Or.inl rfl)) (fun _ _ _ _ _ => pts_nil) (fun _ _ _ _ _ => pe_c M.wrd hr rfl (pa_cons (pv 2) pa_nil)))) pa_nil))))))) (pss_one (ps_ret pe_bl)) pss_nil)
      (pss_cons (ps_if (pt_not (pt_val (pe_callB (cr_all rfl) (by rfl) Z.all (by decide +kernel) (pa_cons (pe_lock
            (pe_lc (own := [("kind", 3)]) (g := gName 3) (tt := tYes) (te := tCall (spIsKind C) [] E0 (tCons (tVar 0) (tCons (tVar 3) tNil))) rfl nd (pi_values (pv 1)) (blkOk_by (own := [("kind", 3)]) (N := nAreDeeds) (sc := defScope pAreDeeds) (by decide +kernel))
              (fun _ _ _ _ _ => pg_name (i := 3) nd rfl (Or.inl rfl)) (fun _ _ _ _ _ => pts_nil) (fun _ _ _ _ _ => pe_c M.isk hr rfl (pa_cons (pv 0) (pa_cons (pv 3) pa_nil))))) pa_nil)))) (pss_one (ps_ret pe_bl)) pss_nil)
      (pss_one (ps_ret (pe_cmpR (op_eqD hr.units) (pe_callB (cr_sortXw (w := w) rfl rfl) (by rfl) Z.sorted (by decide +kernel) (pa_cons (pe_callTy (cr_setXw (w := w) rfl rfl) (by rfl) M.hset (by decide +kernel) (pa_cons (pe_listVals rfl (pv 1) rfl Z.list) pa_nil)) pa_nil)) (pe_m0 M.wor T.cl hr (pv 0)) (nomark _))))), ?_⟩
    have ld : (dkv dl).length ≤ 8 := by rw [dkv_len]; exact ok.few
    have kw : KW ws f := let ⟨_, _, _, q⟩ := kd; q.kw
    refine ⟨fun b H' => b = false ∧ L2.Same H H', ?_, ?_⟩
    · refine ⟨_, rfl, _, _, _, _, true, rfl, .ty _, .base (.dK hd), kit_ty (by decide +kernel), _, rfl, iteF ?_⟩
      refine lkK_true (fun od R hh => ⟨_, rfl, hh⟩) hd (by omega) ?_ ?_
      · rintro i kk v od H1 R hk s1 kR
        obtain ⟨q, hq, e⟩ := List.mem_map.mp (List.mem_of_getElem? hk)
        obtain ⟨rfl, rfl⟩ : Sum.inr q.1 = kk ∧ V.str q.2 = v := ⟨congrArg Prod.fst e, congrArg Prod.snd e⟩
        refine at_name (σ' := [some (.ref p), some (.ref d), some (.str q.1), none]) rfl ⟨rfl, _, rfl, q.1, rfl, ok.wd _ (List.mem_map.mpr ⟨q, hq, rfl⟩), kR⟩
      · intro D H1 s1 hD
        refine ⟨D, _, rfl, SqL.of hD, ?_⟩
        rw [all_true]
        exact ⟨_, rfl, rfl, s1⟩
    · rintro b H1 ⟨rfl, s1⟩
      refine iteF ?_
      have hd1 := s1 _ _ hd
      refine lkV_true (fun od R hh => ⟨_, rfl, hh⟩) hd1 (by omega) ?_ ?_
      · rintro i kk v od H2 R hk s2 kR
        obtain ⟨q, hq, e⟩ := List.mem_map.mp (List.mem_of_getElem? hk)
        obtain ⟨rfl, rfl⟩ : Sum.inr q.1 = kk ∧ V.str q.2 = v := ⟨congrArg Prod.fst e, congrArg Prod.snd e⟩
        refine at_name (σ' := [some (.ref p), some (.ref d), none, some (.str q.2)]) rfl ⟨rfl, _, rfl, _, rfl, p, ws, f, q.2, rfl, ((kd.mono s1).frz hd1).mono s2, ok.kd q hq, kR⟩
      · intro D H2 s2 hD
        refine ⟨D, _, rfl, SqL.of hD, ?_⟩
        rw [all_true]
        refine ⟨_, rfl, iteF ?_⟩
        have s02 : L2.Same H H2 := s1.trans s2
        have hd2 := s02 _ _ hd
        refine ⟨_, rfl, d, _, rfl, hd2, fun v hv => ?_⟩
        have ev : (dkv dl).map (·.2) = (dl.map (·.2)).map V.str := by unfold dkv; rw [List.map_map, List.map_map]; rfl
        rw [ev]
        have s3 := Same.new (H := H2) (o := .lst ((dl.map (·.2)).map V.str)) hv
        have hv3 : upd H2 v (.lst ((dl.map (·.2)).map V.str)) v = _ := upd_same
        generalize upd H2 v (.lst ((dl.map (·.2)).map V.str)) = H3 at s3 hv3 ⊢
        refine ⟨v, _, rfl, SqL.of hv3, by rw [List.length_map]; have := ok.few; omega, fun a ha => ?_⟩
        have s4 := Same.new (H := H3) (o := SetX w a (met (dl.map (·.2)))) ha
        have ha4 : upd H3 a (SetX w a (met (dl.map (·.2)))) a = _ := upd_same
        generalize upd H3 a (SetX w a (met (dl.map (·.2)))) = H4 at s4 ha4 ⊢
        have mW : ∀ x, x ∈ met (dl.map (·.2)) ↔ x ∈ ws := fun x => by
          rw [met_mem]
          constructor
          · intro hx
            obtain ⟨q, hq, rfl⟩ := List.mem_map.mp hx
            exact ok.kd q hq
          · intro hx
            obtain ⟨q, hq, rfl⟩ := ok.all x hx
            exact List.mem_map.mpr ⟨q, hq, rfl⟩
        have nM := met_nodup (dl.map (·.2))
        have l4 : (met (dl.map (·.2))).length ≤ 4 := Nat.le_trans (List.Nodup.length_le_of_subset nM fun x hx => (mW x).mp hx) kw.few
        refine ⟨a, met (dl.map (·.2)), rfl, ha4, by omega, fun ys t pm so ht => ?_⟩
        have ey : ys = ws := (sortedS_asc so (pm.nodup_iff.mpr nM)).eq kw.asc ((List.perm_ext_iff_of_nodup (pm.nodup_iff.mpr nM) kw.asc.nodup).mpr fun z => by rw [pm.mem_iff, mW])
        subst ey
        have s5 := Same.new (H := H4) (o := .lst (ys.map V.str)) ht
        have ht5 : upd H4 t (.lst (ys.map V.str)) t = _ := upd_same
        generalize upd H4 t (.lst (ys.map V.str)) = H5 at s5 ht5 ⊢
        have s05 : L2.Same H H5 := s02.trans (s3.trans (s4.trans s5))
        obtain ⟨kx, kdd, kl, kin⟩ := id (kd.mono s05)
        refine ⟨_, rfl, p, kx, _, rfl, kin.ob, flds_no _ _ (by decide +kernel) (by decide +kernel), p, ys, f, rfl, kd.mono s05, fun q H6 s6 hq0 hq => ?_⟩
        refine ⟨_, _, dp_strs (SqL.of (s6 _ _ ht5)), dp_strs (SqL.of hq), shaped_strs _ kw.wd, shaped_strs _ kw.wd, ?_⟩
        rw [eqv_strs, decide_eq_true rfl]
        exact k _ (s05.trans s6)
def spIsTwice (C : Addr) : Sp := fun vs H Q _ => ∃ (p l : Addr) (ws : List Str) (f : Str → Str → Str) (tw : List Str), vs = [.ref p, .ref l] ∧ KdAt C H p ws f ∧ H l = some (.lst (tw.map V.str)) ∧ TwOk ws f tw ∧ ∀ H', L2.Same H H' → Q (.bl true) H'
abbrev nIsTwice : List Str := ["kinds", "twice", "squares", "kind"]
theorem scIsTwice : FnScope nIsTwice ["kinds", "twice"] (defScope pIsTwice) := ⟨rfl, rfl, rfl, by decide +kernel, rfl, by decide +kernel, by decide +kernel⟩
theorem ok_isTwice {g : Addr} {fd : FuncData} (F : Fun K "_is_twice" "_is_twice" pIsTwice g fd) (T : KTx K mg C) (Z : Blp mg) (M : DeedsC P w K mg base C) : FnOk P w K mg base CX0 6 g fd ["kinds", "twice"] (spIsTwice C) := by
  refine F.ok scIsTwice (fun vs H Q E h => ?_) (fun cdv A outer s H vs Q E hr h => ?_)
  · obtain ⟨p, l, ws, f, tw, rfl, _⟩ := h
    rfl
  · obtain ⟨p, l, ws, f, tw, rfl, kd, hl, tok, k⟩ := h
    have nd := scIsTwice.nd
    refine ⟨_, pss_cons (ps_if (pt_cut <| PW.pt (pw_or (pt_not (pt_val (pe_c M.isl hr rfl (pa_cons (pv 0) (pa_cons (pv 1) pa_nil)))))
          (pw_or1 (pt_not (pt_val (pe_c M.asc hr rfl (pa_cons (pv 1) pa_nil))))))) (pss_one (ps_ret pe_bl)) pss_nil)
      (pss_cons (ps_set (i := 2) nd rfl (Or.inr rfl) (pe_c M.osq hr rfl (pa_cons (pv 0) pa_nil)))
      (pss_one (ps_ret (pe_callB (cr_all rfl) (by rfl) Z.all (by decide +kernel) (pa_cons
        (pe_lc (own := [("kind", 3)]) (g := gName 3) (tt := tYes) (te := tOp (rIn K false) (tVar 3) (tVar 2)) rfl nd (pi_list (pv 1)) (blkOk_by (own := [("kind", 3)]) (N := nIsTwice) (sc := defScope pIsTwice) (by decide +kernel))
            (fun _ _ _ _ _ => pg_name (i := 3) nd rfl (Or.inl rfl)) (fun _ _ _ _ _ => pts_nil) (fun _ _ _ _ _ => pe_cmpR op_in_seq (pv 3) (pv 2) (by rfl))) pa_nil))))), ?_⟩
    have kw : KW ws f := let ⟨_, _, _, q⟩ := kd; q.kw
    have l4 := tok.len kw
    refine ⟨fun b H' => b = false ∧ L2.Same H H', ?_, ?_⟩
    · refine ⟨_, rfl, _, rfl, p, l, ws, f, tw, rfl, kd, hl, by omega, fun x hx => (List.mem_filter.mp (tok.sq x hx)).1, fun H1 s1 => ⟨_, rfl, iteF ?_⟩⟩
      exact ⟨_, rfl, l, tw, rfl, s1 _ _ hl, tok.asc, by omega, fun H2 s2 => ⟨_, rfl, rfl, s1.trans s2⟩⟩
    · rintro b H1 ⟨rfl, s1⟩
      refine iteF ?_
      refine ⟨_, rfl, p, ws, f, rfl, kd.mono s1, fun q H2 s2 hq0 hq => ?_⟩
      refine at_name (σ' := [some (.ref p), some (.ref l), some (.ref q), none]) rfl ?_
      have hl2 := s2 _ _ (s1 _ _ hl)
      refine ⟨_, rfl, l, rfl, ⟨_, SqL.of hl2⟩, fun D hD => ?_⟩
      refine lc_true (walk_list (K := K) (a := l) (xs := tw.map V.str)) (by rw [List.length_map]; omega) hD (fun H' s => SqL.of (s _ _ hl2)) ?_ ?_
      · rintro i v H0 H3 R hi s3 ⟨rfl, hx⟩ kR
        obtain ⟨x, ex, rfl⟩ := str_get hx
        refine at_name (σ' := [some (.ref p), some (.ref l), some (.ref q), some (.str x)]) rfl ⟨rfl, ?_⟩
        refine ⟨_, rfl, _, rfl, q, _, rfl, .inl (SqL.of (s3 _ _ hq)), rfl, flat_strs _, ?_⟩
        rw [if_neg Bool.false_ne_true, inV_strs, decide_eq_true (tok.sq x (List.mem_of_getElem? ex))]
        exact kR _ fun _ _ e => e
      · intro H3 s3 hD3
        refine ⟨D, _, rfl, SqL.of hD3, ?_⟩
        rw [all_true]
        exact k _ (s1.trans (s2.trans s3))
end
end KT
set_option Elab.async false
set_option linter.all false
set_option maxRecDepth 100000
set_option maxHeartbeats 4000000
namespace KT
open PySem L2 PyProof.Rows DTp TxS
/-- what the walk asks of the class Setting -/
structure STx (K : PySem.W.Frag) (mg : Str → Option Value) (S : Addr) : Prop where
  cl : L2.Cls K S
  nK : NoAttr K S "_kinds"
  nD : NoAttr K S "_deeds"
  nT : NoAttr K S "_twice"
  mgS : mg "Setting" = some (.ref S)
  ha : PySem.W.findIn K (.ref S) "__class__" = some (some (.builtin "object.__class__"))
  hn : PySem.W.specialIn K (.builtin "object.__class__") "__get__" = some (some (.builtin "getset_descriptor.__get__"))
  htk : PySem.W.takesIn K (.builtin "object.__class__") = some true
  hm : PySem.W.mroIn K S (.type "object") = some true
  own : PySem.W.kitOne K (.ref S) (.ref S) = some true
theorem STx.ty {K : PySem.W.Frag} {mg : Str → Option Value} {S p dx : Addr} {fs : List (Str × V)} {H : Hp} (T : STx K mg S) (h : H p = some (.ins S dx fs)) : TyX K H (.ref p) (.ref S) := .base (.ins h T.cl T.ha T.hn T.htk T.hm)
section
variable {P : Program} {w : World} {K : PySem.W.Frag} {mg : Str → Option Value} {base : Heap} {C S : Addr}
def spSInit (S C : Addr) : Sp := fun vs H Q _ => ∃ (x dx p kx kd kl d l : Addr) (ws : List Str) (f : Str → Str → Str) (dl dl2 : List (Str × Str)) (tw : List Str), vs = [.ref x, .ref p, .ref d, .ref l] ∧ H x = some (.ins S dx []) ∧ KdIn C H p kx kd kl ws f ∧ H d = some (.dK (dkv dl)) ∧ DlOk ws dl ∧ dl2.Perm dl ∧ Asc (keysD dl2) ∧
  H l = some (.lst (tw.map V.str)) ∧ TwOk ws f tw ∧ ∀ H' d2 l2, StIn S C H' ⟨x, dx, p, kx, kd, kl, d2, l2⟩ ws f dl2 tw → H d2 = none → H l2 = none → (∀ b o, H b = some o → b ≠ x → H' b = some o) → Q .non H'
abbrev nSInit : List Str := ["self", "kinds", "deeds", "twice", "deed"]
theorem scSInit : FnScope nSInit ["self", "kinds", "deeds", "twice"] (defScope sInit) := ⟨rfl, rfl, rfl, by decide +kernel, rfl, by decide +kernel, by decide +kernel⟩
structure InitC (P : Program) (w : World) (K : PySem.W.Frag) (mg : Str → Option Value) (base : Heap) (C : Addr) : Prop where
  chk : Cee P w K mg base 1 "check_kinds" ["kinds"] (spCheckKinds C)
  ard : Cee P w K mg base 3 "_are_deeds" ["kinds", "deeds"] (spAreDeeds C)
  itw : Cee P w K mg base 6 "_is_twice" ["kinds", "twice"] (spIsTwice C)
theorem ok_sinit {g : Addr} {fd : FuncData} (F : Fun K "__init__" "Setting.__init__" sInit g fd) (TS : STx K mg S) (T : KTx K mg C) (Z : Blp mg) (M : InitC P w K mg base C) : FnOk P w K mg base CX0 7 g fd ["self", "kinds", "deeds", "twice"] (spSInit S C) := by
  refine F.ok scSInit (fun vs H Q E h => ?_) (fun cdv A outer s H vs Q E hr h => ?_)
  · obtain ⟨x, dx, p, kx, kd, kl, d, l, ws, f, dl, dl2, tw, rfl, _⟩ := h
    rfl
  · obtain ⟨x, dx, p, kx, kd, kl, d, l, ws, f, dl, dl2, tw, rfl, hx, kin, hd, ok, pm, asc, hl, tok, k⟩ := h
    have nd := scSInit.nd
    refine ⟨_, pss_cons (ps_expr (pe_c M.chk hr rfl (pa_cons (pv 1) pa_nil)))
      (pss_cons (ps_if (pt_not (pt_val (pe_c M.ard hr rfl (pa_cons (pv 1) (pa_cons (pv 2) pa_nil))))) (pss_one ps_never) pss_nil)
      (pss_cons (ps_if (pt_not (pt_val (pe_c M.itw hr rfl (pa_cons (pv 1) (pa_cons (pv 3) pa_nil))))) (pss_one ps_never) pss_nil)
      (pss_cons (ps_fld (pv 0) (pv 1) rfl)
      (pss_cons (ps_fld (pv 0) (GC.pe_dcK (own := [("deed", 4)]) (g := gName 4) (tt := tYes) (tk := tVar 4) (tv := tDGet (tVar 2) (tVar 4)) rfl nd (pi_list (pe_callB (call_sortedD rfl) (by rfl) Z.sorted (by decide +kernel) (pa_cons (pv 2) pa_nil)))
          (blkOk_by (own := [("deed", 4)]) (N := nSInit) (sc := defScope sInit) (by decide +kernel)) (fun _ _ _ _ _ => pg_name (i := 4) nd rfl (Or.inl rfl)) (fun _ _ _ _ _ => pts_nil) GC.cl0 trivial (fun _ _ _ _ _ => pv 4)
          (fun _ _ _ _ _ => pe_dget (hu_of hr) (pv 2) (pv 4) (fun _ _ => rfl))) rfl)
      (pss_one (ps_fld (pv 0) (pe_callTy call_list_of (by rfl) Z.list (by decide +kernel) (pa_cons (pv 3) pa_nil)) rfl)))))), ?_⟩
    have kdA : KdAt C H p ws f := ⟨_, _, _, kin⟩
    have few := ok.few
    refine ⟨_, rfl, p, ws, f, rfl, kdA, ?_⟩
    refine ⟨_, rfl, _, rfl, p, d, ws, f, dl, rfl, kdA, hd, ok, fun H1 s1 => ⟨_, rfl, iteF ?_⟩⟩
    refine ⟨_, rfl, _, rfl, p, l, ws, f, tw, rfl, kdA.mono s1, s1 _ _ hl, tok, fun H2 s2 => ⟨_, rfl, iteF ?_⟩⟩
    have s02 : L2.Same H H2 := s1.trans s2
    refine ⟨_, rfl, _, rfl, x, S, dx, [], rfl, s02 _ _ hx, TS.cl, TS.nK, (by show 0 < 1000; decide), ?_⟩
    have nxp : x ≠ p := fun e => by
      have z := kin.ob
      rw [← e, hx, flds_eq] at z
      injection z with z
      injection z with z1 z2 z3
      cases z3
    have nxd : x ≠ d := ne_of hx hd (by intro z; cases z)
    have nxl : x ≠ l := ne_of hx hl (by intro z; cases z)
    have nxkd : x ≠ kd := ne_of hx kin.dc (by intro z; cases z)
    have nxkl : x ≠ kl := ne_of hx kin.ls (by intro z; cases z)
    have st3 : ∀ b o, H b = some o → b ≠ x → upd H2 x (.ins S dx (putF "_kinds" (.ref p) [])) b = some o := fun b o e ne => (upd_ne ne).trans (s02 _ _ e)
    have hx3 : upd H2 x (.ins S dx (putF "_kinds" (.ref p) [])) x = some (.ins S dx (putF "_kinds" (.ref p) [])) := upd_same
    generalize upd H2 x (.ins S dx (putF "_kinds" (.ref p) [])) = H3 at st3 hx3 ⊢
    have hd3 := st3 _ _ hd (Ne.symm nxd)
    dsimp only [tNext, tSeq, sFld]
    refine dcS_list (key := fun x => x) (val := fun x => .str (kof dl2 x)) (xs := keysD dl2) (fun _ H' => L2.Same H3 H') (by rw [keysD_len, pm.length_eq]; omega) ?_ ?_ ?_
    · intro R hR
      refine ⟨_, rfl, d, _, keysD dl, rfl, .inl hd3, dkv_keys dl, by rw [keysD_len]; omega, fun ys t py so ht => ?_⟩
      have ey : ys = keysD dl2 := (sortedS_asc so (py.nodup_iff.mpr ok.nd)).eq asc (py.trans (perm_keys pm).symm)
      subst ey
      exact hR t _ upd_same (Same.new ht)
    · intro t y H4 H5 R Cn kc hy s4 s5 kR
      have hd5 := s5 _ _ (s4 _ _ hd3)
      refine at_name (σ' := [some (.ref x), some (.ref p), some (.ref d), some (.ref l), some (.str y)]) rfl ⟨rfl, kc _ _ ?_⟩
      have hy1 : y ∈ keysD dl := (perm_keys pm).mem_iff.mp hy
      have dg := DGet.k (k := Sum.inr y) hd5
      rw [valV_dkv ok.nd hy1, ← kof_perm pm ok.nd hy1] at dg
      exact ⟨_, rfl, _, rfl, _, rfl, d, _, rfl, dg, kR _ fun _ _ e => e⟩
    · intro d2 t H4 H5 s4 s5 hd20 hd2
      rw [mergeK_strs asc.nodup, dkv_of asc.nodup] at hd2
      have s35 : L2.Same H3 H5 := s4.trans s5
      have hd2H3 : H3 d2 = none := s4.free hd20
      have fresh : ∀ z, H3 z = none → H z = none := fun z hz => by
        by_cases e : z = x
        · rw [e, hx3] at hz; cases hz
        · cases q : H z with
          | none => rfl
          | some o => rw [st3 _ _ q e] at hz; cases hz
      have nxd2 : x ≠ d2 := ne_of_none hx3 hd2H3
      refine ⟨_, rfl, x, S, dx, _, rfl, s35 _ _ hx3, TS.cl, TS.nD, (by show 1 < 1000; decide), ?_⟩
      have st6 : ∀ b o, H b = some o → b ≠ x → upd H5 x (.ins S dx (putF "_deeds" (.ref d2) (putF "_kinds" (.ref p) []))) b = some o := fun b o e ne => (upd_ne ne).trans (s35 _ _ (st3 _ _ e ne))
      have hx6 : upd H5 x (.ins S dx (putF "_deeds" (.ref d2) (putF "_kinds" (.ref p) []))) x = some _ := upd_same
      have hd6 : upd H5 x (.ins S dx (putF "_deeds" (.ref d2) (putF "_kinds" (.ref p) []))) d2 = some _ := (upd_ne nxd2.symm).trans hd2
      generalize upd H5 x (.ins S dx (putF "_deeds" (.ref d2) (putF "_kinds" (.ref p) []))) = H6 at st6 hx6 hd6 ⊢
      refine ⟨_, rfl, l, _, rfl, .inl (SqL.of (st6 _ _ hl (Ne.symm nxl))), fun l2 hl20 => ?_⟩
      have s7 := Same.new (H := H6) (o := .lst (tw.map V.str)) hl20
      have hl7 : upd H6 l2 (.lst (tw.map V.str)) l2 = _ := upd_same
      have nxl2 : x ≠ l2 := ne_of_none hx6 hl20
      have nd2l2 : d2 ≠ l2 := ne_of_none hd6 hl20
      generalize upd H6 l2 (.lst (tw.map V.str)) = H7 at s7 hl7 ⊢
      refine ⟨_, rfl, x, S, dx, _, rfl, s7 _ _ hx6, TS.cl, TS.nT, (by show 2 < 1000; decide), ?_⟩
      have st8 : ∀ b o, H b = some o → b ≠ x → upd H7 x (.ins S dx (sflds p d2 l2)) b = some o := fun b o e ne => (upd_ne ne).trans (s7 _ _ (st6 _ _ e ne))
      refine k _ d2 l2 ⟨upd_same, ⟨st8 _ _ kin.ob (Ne.symm nxp), st8 _ _ kin.dc (Ne.symm nxkd), st8 _ _ kin.ls (Ne.symm nxkl), kin.kw⟩, (upd_ne nxd2.symm).trans (s7 _ _ hd6), (upd_ne nxl2.symm).trans hl7, ok.perm pm, asc, tok⟩ (fresh _ hd2H3) ?_ st8
      cases q : H l2 with
      | none => rfl
      | some o => rw [st6 _ _ q nxl2.symm] at hl20; cases hl20
/-- making Settings -/
structure SMk (P : Program) (w : World) (K : PySem.W.Frag) (mg : Str → Option Value) (base : Heap) (S C : Addr) : Prop where
  ex : ∃ (f : Addr) (fd : FuncData), Mk K S f ∧ FnOk P w K mg base CX0 7 f fd ["self", "kinds", "deeds", "twice"] (spSInit S C) ∧ Binds K fd ["self", "kinds", "deeds", "twice"] []
section
variable {X : Cx} {j : Nat} {p pos : Pos} {e : Expr} {es : List Expr} {t : TA}
theorem pe_setting (M : SMk X.prog X.w X.K X.mg X.base S C) (hm : X.mg "Setting" = some (.ref S)) (hr : Room j X.A) (hg : Gl X "Setting") (ha : PA X (e :: es) t) (hkj : 8 ≤ j := by decide)
    (he : starEach (e :: es) X.env = (false, eval e X.env) :: starEach es X.env := by rfl) (hpl : (backTo pos (starEach es X.env)).any (·.1) = false := by rfl) :
    PE X (.Call (.Name "Setting" p) (e :: es) [] pos) (tMake S (spSInit S C) [] E0 t) := by
  obtain ⟨f, fd, h1, h2, h3⟩ := M.ex
  exact pe_make h1 h2 (hr.mono hkj) hg hm h3 .nil pass0 ha (by decide) he hpl
end
/-- the Setting at A, its own parts new since H -/
def StNew (S C : Addr) (H H' : Hp) (A : SA) (ws : List Str) (f : Str → Str → Str) (dl : List (Str × Str)) (tw : List Str) : Prop := StIn S C H' A ws f dl tw ∧ H A.q = none ∧ H A.d = none ∧ H A.l = none
theorem mk_setting {H : Hp} {R : Addr → Hp → Prop} {p kx kd kl d l : Addr} {ws : List Str} {f : Str → Str → Str} {dl dl2 : List (Str × Str)} {tw : List Str} (kin : KdIn C H p kx kd kl ws f) (hd : H d = some (.dK (dkv dl))) (ok : DlOk ws dl) (pm : dl2.Perm dl) (asc : Asc (keysD dl2)) (hl : H l = some (.lst (tw.map V.str))) (tok : TwOk ws f tw)
    (k : ∀ x dx d2 l2 H', StNew S C H H' ⟨x, dx, p, kx, kd, kl, d2, l2⟩ ws f dl2 tw → L2.Same H H' → R x H') : ∀ x dx, H x = none → H dx = none → dx ≠ x → spSInit S C (.ref x :: ([.ref p, .ref d, .ref l] ++ [])) (upd (upd H dx (.own x)) x (.ins S dx [])) (fun v H2 => v = .non ∧ R x H2) E0 := by
  intro x dx hx hdx ne
  have old : ∀ b o, H b = some o → upd (upd H dx (.own x)) x (.ins S dx []) b = some o := fun b o e => (upd_ne (ne_of_none e hx)).trans ((upd_ne (ne_of_none e hdx)).trans e)
  have free : ∀ z : Addr, upd (upd H dx (.own x)) x (.ins S dx []) z = none → H z = none := fun z hz => by
    cases q : H z with
    | none => rfl
    | some o => rw [old _ _ q] at hz; cases hz
  refine ⟨x, dx, p, kx, kd, kl, d, l, ws, f, dl, dl2, tw, rfl, upd_same, ⟨old _ _ kin.ob, old _ _ kin.dc, old _ _ kin.ls, kin.kw⟩, old _ _ hd, ok, pm, asc, old _ _ hl, tok, fun H' d2 l2 st hd2 hl2 keep => ⟨rfl, k x dx d2 l2 H' ⟨st, hx, free _ hd2, free _ hl2⟩ fun b o e => ?_⟩⟩
  exact keep b o (old _ _ e) (ne_of_none e hx)
def spSKinds (S C : Addr) : Sp := fun vs H Q _ => ∃ (A : SA) (ws : List Str) (f : Str → Str → Str) (dl : List (Str × Str)) (tw : List Str), vs = [.ref A.q] ∧ StIn S C H A ws f dl tw ∧ Q (.ref A.p) H
theorem scSKinds : FnScope ["self"] ["self"] (defScope sKinds) := ⟨rfl, rfl, rfl, by decide +kernel, rfl, by decide +kernel, by decide +kernel⟩
theorem ok_skinds {g : Addr} {fd : FuncData} (F : Fun K "kinds" "Setting.kinds" sKinds g fd) (T : STx K mg S) : FnOk P w K mg base CX0 1 g fd ["self"] (spSKinds S C) := by
  refine F.ok scSKinds (fun vs H Q E h => ?_) (fun cdv A outer s H vs Q E hr h => ?_)
  · obtain ⟨A, ws, f, dl, tw, rfl, _⟩ := h
    rfl
  · obtain ⟨A0, ws, f, dl, tw, rfl, st, k⟩ := h
    refine ⟨_, pss_one (ps_ret (pe_fld (pv 0) rfl)), ?_⟩
    exact ⟨_, rfl, _, S, _, _, _, rfl, st.ob, T.cl, T.nK, sflds_k _ _ _, k⟩
def spSDeeds (S C : Addr) : Sp := fun vs H Q _ => ∃ (A : SA) (ws : List Str) (f : Str → Str → Str) (dl : List (Str × Str)) (tw : List Str), vs = [.ref A.q] ∧ StIn S C H A ws f dl tw ∧ ∀ q H', L2.Same H H' → H q = none → H' q = some (.dK (dkv dl)) → Q (.ref q) H'
theorem scSDeeds : FnScope ["self"] ["self"] (defScope sDeeds) := ⟨rfl, rfl, rfl, by decide +kernel, rfl, by decide +kernel, by decide +kernel⟩
theorem ok_sdeeds {g : Addr} {fd : FuncData} (F : Fun K "deeds" "Setting.deeds" sDeeds g fd) (T : STx K mg S) (Z : Blp mg) : FnOk P w K mg base CX0 1 g fd ["self"] (spSDeeds S C) := by
  refine F.ok scSDeeds (fun vs H Q E h => ?_) (fun cdv A outer s H vs Q E hr h => ?_)
  · obtain ⟨A, ws, f, dl, tw, rfl, _⟩ := h
    rfl
  · obtain ⟨A0, ws, f, dl, tw, rfl, st, k⟩ := h
    refine ⟨_, pss_one (ps_ret (pe_callTy call_dictD (by rfl) Z.dict (by decide +kernel) (pa_cons (pe_fld (pv 0) rfl) pa_nil))), ?_⟩
    exact ⟨_, rfl, _, S, _, _, _, rfl, st.ob, T.cl, T.nD, sflds_d _ _ _, _, _, rfl, .inl st.dc, fun q hq => k q _ (Same.new hq) hq upd_same⟩
def spSTwice (S C : Addr) : Sp := fun vs H Q _ => ∃ (A : SA) (ws : List Str) (f : Str → Str → Str) (dl : List (Str × Str)) (tw : List Str), vs = [.ref A.q] ∧ StIn S C H A ws f dl tw ∧ ∀ q H', L2.Same H H' → H q = none → H' q = some (.lst (tw.map V.str)) → Q (.ref q) H'
theorem scSTwice : FnScope ["self"] ["self"] (defScope sTwice) := ⟨rfl, rfl, rfl, by decide +kernel, rfl, by decide +kernel, by decide +kernel⟩
theorem ok_stwice {g : Addr} {fd : FuncData} (F : Fun K "twice" "Setting.twice" sTwice g fd) (T : STx K mg S) (Z : Blp mg) : FnOk P w K mg base CX0 1 g fd ["self"] (spSTwice S C) := by
  refine F.ok scSTwice (fun vs H Q E h => ?_) (fun cdv A outer s H vs Q E hr h => ?_)
  · obtain ⟨A, ws, f, dl, tw, rfl, _⟩ := h
    rfl
  · obtain ⟨A0, ws, f, dl, tw, rfl, st, k⟩ := h
    refine ⟨_, pss_one (ps_ret (pe_callTy call_list_of (by rfl) Z.list (by decide +kernel) (pa_cons (pe_fld (pv 0) rfl) pa_nil))), ?_⟩
    exact ⟨_, rfl, _, S, _, _, _, rfl, st.ob, T.cl, T.nT, sflds_t _ _ _, _, _, rfl, .inl (SqL.of st.ls), fun q hq => k q _ (Same.new hq) hq upd_same⟩
theorem scSEq : FnScope ["self", "other"] ["self", "other"] (defScope sEq) := ⟨rfl, rfl, rfl, by decide +kernel, rfl, by decide +kernel, by decide +kernel⟩
end
end KT
set_option Elab.async false
set_option linter.all false
set_option maxRecDepth 100000
set_option maxHeartbeats 4000000
namespace KT
open PySem L2 PyProof.Rows DTp TxS
def rp (f : Str → Str → Str) : List Str → Str
  | [] => ⟨#[]⟩
  | [x] => x
  | x :: y :: ys => f x (rp f (y :: ys))
def lp (f : Str → Str → Str) : List Str → Str
  | [] => ⟨#[]⟩
  | x :: xs => xs.foldl f x
section
variable {ws : List Str} {f : Str → Str → Str}
theorem rp_cons {x : Str} {xs : List Str} (h : xs ≠ []) : rp f (x :: xs) = f x (rp f xs) := by
  cases xs with
  | nil => exact absurd rfl h
  | cons y ys => rfl
theorem lp_snoc {y : Str} {ys : List Str} (h : ys ≠ []) : lp f (ys ++ [y]) = f (lp f ys) y := by
  cases ys with
  | nil => exact absurd rfl h
  | cons x xs =>
    show (xs ++ [y]).foldl f x = f (xs.foldl f x) y
    rw [List.foldl_append]
    rfl
theorem rp_turn : ∀ zs : List Str, rp (fun x y => f y x) zs = lp f zs.reverse
  | [] => rfl
  | [x] => rfl
  | x :: y :: ys => by
    have ih := rp_turn (y :: ys)
    rw [rp_cons (List.cons_ne_nil _ _), ih, List.reverse_cons (a := x), lp_snoc (by simp)]
theorem rp_rev (xs : List Str) : rp (fun x y => f y x) xs.reverse = lp f xs := by rw [rp_turn, List.reverse_reverse]
theorem foldl_as (kw : KW ws f) : ∀ (ys : List Str) (x y : Str), x ∈ ws → y ∈ ws → (∀ z ∈ ys, z ∈ ws) → f x (ys.foldl f y) = ys.foldl f (f x y)
  | [], x, y, _, _, _ => rfl
  | z :: ys, x, y, hx, hy, h => by
    have hz := h z List.mem_cons_self
    show f x (ys.foldl f (f y z)) = ys.foldl f (f (f x y) z)
    rw [foldl_as kw ys x (f y z) hx (kw.cl _ _ hy hz) fun u hu => h u (List.mem_cons_of_mem _ hu), kw.as x y z hx hy hz]
theorem rp_lp (kw : KW ws f) : ∀ xs : List Str, (∀ z ∈ xs, z ∈ ws) → xs ≠ [] → rp f xs = lp f xs
  | [], _, h => absurd rfl h
  | [x], _, _ => rfl
  | x :: y :: ys, h, _ => by
    rw [rp_cons (List.cons_ne_nil _ _), rp_lp kw (y :: ys) (fun z hz => h z (List.mem_cons_of_mem _ hz)) (List.cons_ne_nil _ _)]
    exact foldl_as kw ys x y (h x List.mem_cons_self) (h y (List.mem_cons_of_mem _ List.mem_cons_self)) fun z hz => h z (List.mem_cons_of_mem _ (List.mem_cons_of_mem _ hz))
theorem lp_mem (kw : KW ws f) {xs : List Str} (h : ∀ z ∈ xs, z ∈ ws) (n : xs ≠ []) : lp f xs ∈ ws := by
  cases xs with
  | nil => exact absurd rfl n
  | cons x xs => exact foldl_mem kw xs x (h x List.mem_cons_self) fun z hz => h z (List.mem_cons_of_mem _ hz)
end
end KT
set_option Elab.async false
set_option linter.all false
set_option maxRecDepth 100000
set_option maxHeartbeats 4000000
set_option pp.maxSteps 600
namespace KT
open PySem L2 PyProof.Rows DTp TxS
section
variable {P : Program} {w : World} {K : PySem.W.Frag} {mg : Str → Option Value} {base : Heap} {C S : Addr}
def spCheckSet (S C : Addr) : Sp := fun vs H Q _ => ∃ (A : SA) (ws : List Str) (f : Str → Str → Str) (dl : List (Str × Str)) (tw : List Str), vs = [.ref A.q] ∧ StIn S C H A ws f dl tw ∧ Q .non H
theorem scCheckSet : FnScope ["setting"] ["setting"] (defScope pCheckSetting) := ⟨rfl, rfl, rfl, by decide +kernel, rfl, by decide +kernel, by decide +kernel⟩
theorem ok_checkSet {g : Addr} {fd : FuncData} (F : Fun K "check_setting" "check_setting" pCheckSetting g fd) (T : STx K mg S) (Z : Blp mg) : FnOk P w K mg base CX0 1 g fd ["setting"] (spCheckSet S C) := by
  refine F.ok scCheckSet (fun vs H Q E h => ?_) (fun cdv A outer s H vs Q E hr h => ?_)
  · obtain ⟨A, ws, f, dl, tw, rfl, _⟩ := h
    rfl
  · obtain ⟨A0, ws, f, dl, tw, rfl, st, k⟩ := h
    refine ⟨_, pss_one (ps_if (pt_not (pt_val (pe_callB call_isi (by rfl) Z.isi boot_isi (pa_cons (pv 0) (pa_cons (pe_glob (v := .ref S) rfl T.mgS rfl) pa_nil))))) (pss_one ps_never) pss_nil), ?_⟩
    exact ⟨_, rfl, _, _, _, _, true, rfl, .own _, T.ty st.ob, T.own, _, rfl, iteF k⟩
/-- a log that is passed -/
structure LogAt (dl : List (Str × Str)) (H : Hp) (r : Addr) (row : List Str) : Prop where
  at' : H r = some (.lst (row.map V.str))
  few : row.length ≤ 100
  mem : ∀ x ∈ row, x ∈ keysD dl
theorem LogAt.mono {dl : List (Str × Str)} {H H' : Hp} {r : Addr} {row : List Str} (s : L2.Same H H') (h : LogAt dl H r row) : LogAt dl H' r row := ⟨s _ _ h.at', h.few, h.mem⟩
def kds (dl : List (Str × Str)) (row : List Str) : List Str := row.map (kof dl)
theorem kds_len (dl : List (Str × Str)) (row : List Str) : (kds dl row).length = row.length := by unfold kds; rw [List.length_map]
theorem kds_mem {ws : List Str} {dl : List (Str × Str)} {row : List Str} (ok : DlOk ws dl) (h : ∀ x ∈ row, x ∈ keysD dl) : ∀ z ∈ kds dl row, z ∈ ws := fun z hz => by
  obtain ⟨x, hx, rfl⟩ := List.mem_map.mp hz
  exact ok.kof (h x hx)
structure LogC (P : Program) (w : World) (K : PySem.W.Frag) (mg : Str → Option Value) (base : Heap) (S C : Addr) : Prop where
  cs : Cee P w K mg base 1 "check_setting" ["setting"] (spCheckSet S C)
  knd : Mee P w K mg base S 1 "kinds" ["self"] (spSKinds S C)
  ded : Mee P w K mg base S 1 "deeds" ["self"] (spSDeeds S C)
  twi : Mee P w K mg base S 1 "twice" ["self"] (spSTwice S C)
  wor : Mee P w K mg base C 1 "words" ["self"] (spKWords C)
  put : Mee P w K mg base C 4 "put" ["self", "one", "other"] (spKPut C)
def spIsLog (S C : Addr) : Sp := fun vs H Q _ => ∃ (A : SA) (ws : List Str) (f : Str → Str → Str) (dl : List (Str × Str)) (tw : List Str) (r : Addr) (row : List Str), vs = [.ref A.q, .ref r] ∧ StIn S C H A ws f dl tw ∧ LogAt dl H r row ∧ ∀ H', L2.Same H H' → Q (.bl true) H'
abbrev nIsLog : List Str := ["setting", "value", "deeds", "deed"]
theorem scIsLog : FnScope nIsLog ["setting", "value"] (defScope pIsLog) := ⟨rfl, rfl, rfl, by decide +kernel, rfl, by decide +kernel, by decide +kernel⟩
theorem ok_isLog {g : Addr} {fd : FuncData} (F : Fun K "is_log" "is_log" pIsLog g fd) (TS : STx K mg S) (Z : Blp mg) (M : LogC P w K mg base S C) : FnOk P w K mg base CX0 2 g fd ["setting", "value"] (spIsLog S C) := by
  refine F.ok scIsLog (fun vs H Q E h => ?_) (fun cdv A outer s H vs Q E hr h => ?_)
  · obtain ⟨A, ws, f, dl, tw, r, row, rfl, _⟩ := h
    rfl
  · obtain ⟨A0, ws, f, dl, tw, r, row, rfl, st, lg, k⟩ := h
    have nd := scIsLog.nd
    refine ⟨_, pss_cons (ps_expr (pe_c M.cs hr rfl (pa_cons (pv 0) pa_nil)))
      (pss_cons (ps_set (i := 2) nd rfl (Or.inr rfl) (pe_m0 M.ded TS.cl hr (pv 0)))
      (pss_one (ps_ret (pe_and (pe_callB call_isi (by rfl) Z.isi boot_isi (pa_cons (pv 1) (pa_cons (pe_bltn (v := .ty "list") (by rfl) Z.list (by decide +kernel) rfl) pa_nil)))
        (pe_one (pe_callB (cr_all rfl) (by rfl) Z.all (by decide +kernel) (pa_cons
          (pe_lc (own := [("deed", 3)]) (g := gName 3) (tt := tYes) (te := tAndV (tCB (rIsi K) (tCons (tVar 3) (tCons (tC (.ty "str")) tNil))) (tDIn (tVar 3) (tVar 2))) rfl nd (pi_list (pv 1)) (blkOk_by (own := [("deed", 3)]) (N := nIsLog) (sc := defScope pIsLog) (by decide +kernel))
            (fun _ _ _ _ _ => pg_name (i := 3) nd rfl (Or.inl rfl)) (fun _ _ _ _ _ => pts_nil)
            (fun _ _ _ _ _ => pe_and (pe_callB call_isi (by rfl) Z.isi boot_isi (pa_cons (pv 3) (pa_cons (pe_bltn (v := .ty "str") (by rfl) Z.str (by decide +kernel) rfl) pa_nil))) (pe_one (pe_cmp (pc_din (hu_of hr) (pv 3) (pv 2)) (by rfl))))) pa_nil))))))), ?_⟩
    refine ⟨_, rfl, A0, ws, f, dl, tw, rfl, st, ?_⟩
    refine ⟨_, rfl, A0.q, A0.dx, _, rfl, st.ob, sflds_no _ _ _ (by decide +kernel) (by decide +kernel) (by decide +kernel), A0, ws, f, dl, tw, rfl, st, fun d H1 s1 hd0 hd => ?_⟩
    refine at_name (σ' := [some (.ref A0.q), some (.ref r), some (.ref d), none]) rfl ?_
    have lg1 := lg.mono s1
    refine ⟨_, rfl, _, _, _, _, true, rfl, .ty _, .base (.lst lg1.at'), kit_ty (by decide +kernel), _, rfl, iteT ?_⟩
    refine ⟨_, rfl, r, rfl, ⟨_, SqL.of lg1.at'⟩, fun D hD => ?_⟩
    refine lc_true (walk_list (K := K) (a := r) (xs := row.map V.str)) (by rw [List.length_map]; have := lg.few; omega) hD (fun H' s => SqL.of (s _ _ lg1.at')) ?_ ?_
    · rintro i v H0 H2 R hi s2 ⟨rfl, hx⟩ kR
      obtain ⟨x, ex, rfl⟩ := str_get hx
      refine at_name (σ' := [some (.ref A0.q), some (.ref r), some (.ref d), some (.str x)]) rfl ⟨rfl, ?_⟩
      refine ⟨_, rfl, _, _, _, _, true, rfl, .ty _, .base (.str _), kit_ty (by decide +kernel), _, rfl, iteT ?_⟩
      have dg := DGet.k (k := Sum.inr x) (s2 _ _ hd)
      rw [valV_dkv st.ok.nd (lg.mem x (List.mem_of_getElem? ex))] at dg
      exact ⟨_, rfl, _, rfl, d, _, rfl, dg, kR _ fun _ _ e => e⟩
    · intro H2 s2 hD2
      refine ⟨D, _, rfl, SqL.of hD2, ?_⟩
      rw [all_true]
      exact k _ (s1.trans s2)
def spCheckLog (S C : Addr) : Sp := fun vs H Q _ => ∃ (A : SA) (ws : List Str) (f : Str → Str → Str) (dl : List (Str × Str)) (tw : List Str) (r : Addr) (row : List Str), vs = [.ref A.q, .ref r] ∧ StIn S C H A ws f dl tw ∧ LogAt dl H r row ∧ ∀ H', L2.Same H H' → Q .non H'
theorem scCheckLog : FnScope ["setting", "log"] ["setting", "log"] (defScope pCheckLog) := ⟨rfl, rfl, rfl, by decide +kernel, rfl, by decide +kernel, by decide +kernel⟩
theorem ok_checkLog {g : Addr} {fd : FuncData} (F : Fun K "check_log" "check_log" pCheckLog g fd) (M : Cee P w K mg base 2 "is_log" ["setting", "value"] (spIsLog S C)) : FnOk P w K mg base CX0 3 g fd ["setting", "log"] (spCheckLog S C) := by
  refine F.ok scCheckLog (fun vs H Q E h => ?_) (fun cdv A outer s H vs Q E hr h => ?_)
  · obtain ⟨A, ws, f, dl, tw, r, row, rfl, _⟩ := h
    rfl
  · obtain ⟨A0, ws, f, dl, tw, r, row, rfl, st, lg, k⟩ := h
    refine ⟨_, pss_one (ps_if (pt_not (pt_val (pe_c M hr rfl (pa_cons (pv 0) (pa_cons (pv 1) pa_nil))))) (pss_one ps_never) pss_nil), ?_⟩
    exact ⟨_, rfl, _, rfl, A0, ws, f, dl, tw, r, row, rfl, st, lg, fun H1 s1 => ⟨_, rfl, iteF (k _ s1)⟩⟩
def spKods (S C : Addr) : Sp := fun vs H Q _ => ∃ (A : SA) (ws : List Str) (f : Str → Str → Str) (dl : List (Str × Str)) (tw : List Str) (r : Addr) (row : List Str), vs = [.ref A.q, .ref r] ∧ StIn S C H A ws f dl tw ∧ LogAt dl H r row ∧ ∀ q H', L2.Same H H' → H q = none → H' q = some (.lst ((kds dl row).map V.str)) → Q (.ref q) H'
abbrev nKods : List Str := ["setting", "log", "deeds", "deed"]
theorem scKods : FnScope nKods ["setting", "log"] (defScope pKindsOfDeeds) := ⟨rfl, rfl, rfl, by decide +kernel, rfl, by decide +kernel, by decide +kernel⟩
theorem ok_kods {g : Addr} {fd : FuncData} (F : Fun K "kinds_of_deeds" "kinds_of_deeds" pKindsOfDeeds g fd) (TS : STx K mg S) (M : LogC P w K mg base S C) : FnOk P w K mg base CX0 2 g fd ["setting", "log"] (spKods S C) := by
  refine F.ok scKods (fun vs H Q E h => ?_) (fun cdv A outer s H vs Q E hr h => ?_)
  · obtain ⟨A, ws, f, dl, tw, r, row, rfl, _⟩ := h
    rfl
  · obtain ⟨A0, ws, f, dl, tw, r, row, rfl, st, lg, k⟩ := h
    have nd := scKods.nd
    refine ⟨_, pss_cons (ps_set (i := 2) nd rfl (Or.inr rfl) (pe_m0 M.ded TS.cl hr (pv 0)))
      (pss_one (ps_ret (pe_lc (own := [("deed", 3)]) (g := gName 3) (tt := tYes) (te := tDGet (tVar 2) (tVar 3)) rfl nd (pi_list (pv 1)) (blkOk_by (own := [("deed", 3)]) (N := nKods) (sc := defScope pKindsOfDeeds) (by decide +kernel))
            (fun _ _ _ _ _ => pg_name (i := 3) nd rfl (Or.inl rfl)) (fun _ _ _ _ _ => pts_nil) (fun _ _ _ _ _ => pe_dget (hu_of hr) (pv 2) (pv 3) (fun _ _ => rfl))))), ?_⟩
    refine ⟨_, rfl, A0.q, A0.dx, _, rfl, st.ob, sflds_no _ _ _ (by decide +kernel) (by decide +kernel) (by decide +kernel), A0, ws, f, dl, tw, rfl, st, fun d H1 s1 hd0 hd => ?_⟩
    refine at_name (σ' := [some (.ref A0.q), some (.ref r), some (.ref d), none]) rfl ?_
    have lg1 := lg.mono s1
    dsimp only [tRet]
    refine ll_each (K := K) (fun l xs H' => l = r ∧ xs = row.map V.str ∧ H' = H1) (fun i y _ => y = ((kds dl row).map V.str).getD i .non) (StabF.val _) (fun R hR => ⟨_, rfl, hR r _ H1 ⟨rfl, rfl, rfl⟩ (SqL.of lg1.at') (by rw [List.length_map]; have := lg.few; omega)⟩) ?_ ?_ ?_
    · rintro l xs H2 H3 ⟨rfl, rfl, rfl⟩ s2
      exact SqL.of (s2 _ _ lg1.at')
    · rintro l xs H2 i v H3 R ⟨rfl, rfl, rfl⟩ hx s2 kR
      obtain ⟨x, ex, rfl⟩ := str_get hx
      refine at_name (σ' := [some (.ref A0.q), some (.ref l), some (.ref d), some (.str x)]) rfl ⟨rfl, ?_⟩
      have dg := DGet.k (k := Sum.inr x) (s2 _ _ hd)
      rw [valV_dkv st.ok.nd (lg.mem x (List.mem_of_getElem? ex))] at dg
      refine ⟨_, rfl, _, rfl, d, _, rfl, dg, kR _ _ (fun _ _ e => e) ?_⟩
      unfold kds
      rw [List.map_map, List.getD_eq_getElem?_getD, List.getElem?_map, ex]
      rfl
    · rintro l xs H2 D ys H3 ⟨rfl, rfl, rfl⟩ s2 hD0 hD ly fy
      have e : ys = (kds dl row).map V.str := by
        refine List.ext_getElem? fun i => ?_
        by_cases hi : i < ys.length
        · have e1 : ys[i]? = some ys[i] := List.getElem?_eq_getElem hi
          have hi2 : i < ((kds dl row).map V.str).length := by rw [List.length_map, kds_len]; rw [ly, List.length_map] at hi; exact hi
          rw [e1, fy i _ e1, List.getD_eq_getElem?_getD, List.getElem?_eq_getElem hi2]
          rfl
        · rw [List.getElem?_eq_none (by omega), List.getElem?_eq_none (by rw [List.length_map, kds_len]; rw [ly, List.length_map] at hi; omega)]
      rw [e] at hD
      exact k D _ (s1.trans s2) (s1.free hD0) hD
def spKindOf (S C : Addr) : Sp := fun vs H Q _ => ∃ (A : SA) (ws : List Str) (f : Str → Str → Str) (dl : List (Str × Str)) (tw : List Str) (r : Addr) (row : List Str), vs = [.ref A.q, .ref r] ∧ StIn S C H A ws f dl tw ∧ LogAt dl H r row ∧ row ≠ [] ∧ ∀ H', L2.Same H H' → Q (.str (lp f (kds dl row))) H'
structure KofC (P : Program) (w : World) (K : PySem.W.Frag) (mg : Str → Option Value) (base : Heap) (S C : Addr) : Prop where
  cl : Cee P w K mg base 3 "check_log" ["setting", "log"] (spCheckLog S C)
  kod : Cee P w K mg base 2 "kinds_of_deeds" ["setting", "log"] (spKods S C)
end
end KT
set_option Elab.async false
set_option linter.all false
set_option maxRecDepth 100000
set_option maxHeartbeats 4000000
set_option Elab.async false
set_option linter.all false
set_option maxRecDepth 100000
set_option maxHeartbeats 4000000
set_option pp.maxSteps 900
set_option Elab.async false
set_option linter.all false
set_option maxRecDepth 100000
set_option maxHeartbeats 4000000
set_option pp.maxSteps 900
namespace KT
open PySem L2 PyProof.Rows DTp TxS
section
variable {P : Program} {w : World} {K : PySem.W.Frag} {mg : Str → Option Value} {base : Heap} {C S : Addr}
def spOppSet (S C : Addr) : Sp := fun vs H Q _ => ∃ (A : SA) (ws : List Str) (f : Str → Str → Str) (dl : List (Str × Str)) (tw : List Str), vs = [.ref A.q] ∧ StIn S C H A ws f dl tw ∧ ∀ B H', StIn S C H' B ws (fun x y => f y x) dl tw → L2.Same H H' → Q (.ref B.q) H'
end
end KT
set_option Elab.async false
set_option linter.all false
set_option maxRecDepth 100000
set_option maxHeartbeats 4000000
set_option pp.maxSteps 900
namespace KT
open PySem L2 PyProof.Rows DTp TxS
theorem PE.either {X : Cx} {e : Expr} {t1 t2 : TE} (a : PE X e t1) (b : PE X e t2) : PE X e fun σ H Q => t1 σ H Q ∨ t2 σ H Q := ⟨fun pins s σ H Q I h => h.elim (a.run pins s σ H Q I) (b.run pins s σ H Q I)⟩
/-- dict(of pairs), the keys ints and texts -/
def rDP (K : PySem.W.Frag) : List V → Hp → VK → Prop := fun xs H Q => ∃ (a : Addr) (ps : List Addr) (kvs : List (Key × V)), xs = [.ref a] ∧ SqL K H a (ps.map V.ref) ∧ Paired (fun p kv => SqT K H p [kV kv.1, kv.2]) ps kvs ∧ ∀ p, H p = none → Q (.ref p) (upd H p (.dK (mergeK [] kvs)))
theorem cr_dictP {X : Cx} (hc : X.calm = true) : CallR X (.type "dict") (rDP X.K) := call_dictP hc
theorem tups_prT {K : PySem.W.Frag} {key : Str → Str} {val : Str → V} {H' : Hp} : ∀ {ps : List Addr} {xs : List Str}, Paired (fun t x => H' t = some (.tup [.str (key x), val x])) ps xs → Paired (fun p (kv : Key × V) => SqT K H' p [kV kv.1, kv.2]) ps (xs.map fun x => (Sum.inr (key x), val x))
  | _, _, .nil => .nil
  | _, _, .cons r t => .cons (SqT.of r) (tups_prT t)
/-- dict([(key, value) for text in list]) -/
theorem rdS_list {K : PySem.W.Frag} {key : Str → Str} {val : Str → V} {tl : TE} {g : TG} {te : TE} {vs : List Nat} {σ : L2.St} {H : Hp} {Q : VK} {xs : List Str} (Pd : Addr → Hp → Prop) (few : xs.length ≤ 1000)
    (hl : ∀ R : VK, (∀ l H1, H1 l = some (.lst (xs.map V.str)) → Pd l H1 → R (.ref l) H1) → tl σ H R)
    (step : ∀ l x H1 H2 (R : VK), x ∈ xs → Pd l H1 → L2.Same H1 H2 → (∀ t H3, L2.Same H2 H3 → H3 t = some (.tup [.str (key x), val x]) → R (.ref t) H3) → g (.str x) (wipe σ vs) H2 fun σ2 H3 => wipe σ2 vs = wipe σ vs ∧ te σ2 H3 R)
    (k : ∀ q l H1 H', Pd l H1 → L2.Same H1 H' → H1 q = none → H' q = some (.dK (mergeK [] (xs.map fun x => (Sum.inr (key x), val x)))) → Q (.ref q) H') :
    tCB (rDP K) (tCons (tLc (iList K tl) g tYes te vs) tNil) σ H Q := by
  dsimp only [tCB, tCons, tNil]
  refine ll_each (K := K) (fun l ys H1 => ys = xs.map V.str ∧ H1 l = some (.lst (xs.map V.str)) ∧ Pd l H1) (fun i y H' => ∃ t ys, y = .ref t ∧ H' t = some (.tup ys) ∧ ∃ x, xs[i]? = some x ∧ ys = [.str (key x), val x]) (StabF.tup _) (fun R hR => hl R fun l H1 h1 pd => hR l _ H1 ⟨rfl, h1, pd⟩ (SqL.of h1) (by rw [List.length_map]; exact few)) ?_ ?_ ?_
  · rintro l ys H1 H2 ⟨rfl, h1, _⟩ s
    exact SqL.of (s _ _ h1)
  · rintro l ys H0 i v H1 R ⟨rfl, h1, pd⟩ hx s kR
    obtain ⟨x, ex, rfl⟩ := str_get hx
    exact step l x H0 H1 R (List.mem_of_getElem? ex) pd s fun t H3 s3 ht => kR _ _ s3 ⟨t, _, rfl, ht, x, ex, rfl⟩
  · rintro l ys H0 D zs H' ⟨rfl, h1, pd⟩ s hD0 hD lz fz
    obtain ⟨ps, rfl, pr⟩ := refs_of (L := xs) (R := fun t x => H' t = some (.tup [.str (key x), val x])) (by rw [lz, List.length_map]) fun i y x h1 h2 => by
      obtain ⟨t, ys, e1, e2, x2, e3, e4⟩ := fz i y h1
      rw [h2] at e3
      obtain rfl := Option.some.inj e3
      exact ⟨t, e1, by rw [← e4]; exact e2⟩
    have pr2 := tups_prT (K := K) pr
    refine ⟨D, ps, _, rfl, SqL.of hD, pr2, fun q hq => k q l H0 _ pd (fun b o e => ?_) (s.free hq) upd_same⟩
    rw [upd_ne (ne_of_none (s _ _ e) hq)]
    exact s _ _ e
/-- the law's own view of a setting: a list of a table, a dict and a list -/
structure SetAt (H : Hp) (s td dd tl : Addr) (ws : List Str) (f : Str → Str → Str) (dl : List (Str × Str)) (tw : List Str) : Prop where
  hs : H s = some (.lst [.ref td, .ref dd, .ref tl])
  ht : H td = some (.dT (tabW ws f))
  hd : H dd = some (.dK (dkv dl))
  hl : H tl = some (.lst (tw.map V.str))
  kw : KW ws f
  ok : DlOk ws dl
  asc : Asc (keysD dl)
  tok : TwOk ws f tw
section
variable {ws : List Str} {f : Str → Str → Str} {dl : List (Str × Str)} {tw : List Str}
theorem SetAt.mono {H H' : Hp} {s td dd tl : Addr} (sm : L2.Same H H') (h : SetAt H s td dd tl ws f dl tw) : SetAt H' s td dd tl ws f dl tw := ⟨sm _ _ h.hs, sm _ _ h.ht, sm _ _ h.hd, sm _ _ h.hl, h.kw, h.ok, h.asc, h.tok⟩
theorem SetAt.but {H H' : Hp} {s td dd tl z : Addr} (h : SetAt H s td dd tl ws f dl tw) (b : But z H H') (n1 : s ≠ z) (n2 : td ≠ z) (n3 : dd ≠ z) (n4 : tl ≠ z) : SetAt H' s td dd tl ws f dl tw := ⟨b _ _ n1 h.hs, b _ _ n2 h.ht, b _ _ n3 h.hd, b _ _ n4 h.hl, h.kw, h.ok, h.asc, h.tok⟩
theorem SetAt.purse {H H' : Hp} {s td dd tl p : Addr} {B : Int} (h : SetAt H s td dd tl ws f dl tw) (hP : PurseAt H p B) (b : But p H H') : SetAt H' s td dd tl ws f dl tw := by
  obtain ⟨x1, x2, x3, x4, e, _⟩ := id hP
  refine h.but b (fun z => ?_) (fun z => ?_) (fun z => ?_) (Ne.symm (hP.strs h.hl))
  · have q := h.hs; rw [z, e] at q; cases q
  · have q := h.ht; rw [z, e] at q; cases q
  · have q := h.hd; rw [z, e] at q; cases q
theorem SetAt.new {H H' : Hp} {s td dd tl z : Addr} (h : SetAt H s td dd tl ws f dl tw) (hz : H z = none) (b : But z H H') : SetAt H' s td dd tl ws f dl tw :=
  h.but b (ne_of_none h.hs hz) (ne_of_none h.ht hz) (ne_of_none h.hd hz) (ne_of_none h.hl hz)
end
section
variable {P : Program} {w : World} {K : PySem.W.Frag} {mg : Str → Option Value} {base : Heap} {C S : Addr}
def spKind : Sp := fun vs H Q _ => ∃ (s td dd tl : Addr) (ws : List Str) (f : Str → Str → Str) (dl : List (Str × Str)) (tw : List Str) (r : Addr) (row : List Str), vs = [.ref s, .ref r] ∧ SetAt H s td dd tl ws f dl tw ∧ LogAt dl H r row ∧ row ≠ [] ∧ ∀ H', L2.Same H H' → Q (.str (lp f (kds dl row))) H'
abbrev nKind : List Str := ["_law_setting_here", "_law_log_here", "_law_found", "_law_deed"]
theorem scKind : FnScope nKind ["_law_setting_here", "_law_log_here"] (defScope sKind) := ⟨rfl, rfl, rfl, by decide +kernel, rfl, by decide +kernel, by decide +kernel⟩
theorem ok_kind {g : Addr} {fd : FuncData} (F : Fun K "_law_kind" "_law_kind" sKind g fd) : FnOk P w K mg base CX0 1 g fd ["_law_setting_here", "_law_log_here"] spKind := by
  refine F.ok scKind (fun vs H Q E h => ?_) (fun cdv A outer s H vs Q E hr h => ?_)
  · obtain ⟨s, td, dd, tl, ws, f, dl, tw, r, row, rfl, _⟩ := h
    rfl
  · obtain ⟨s0, td, dd, tl, ws, f, dl, tw, r, row, rfl, se, lg, ne, k⟩ := h
    have nd := scKind.nd
    refine ⟨_, pss_cons (ps_set (i := 2) nd rfl (Or.inl rfl) (pe_dget (hu_of hr) (pe_ix ix_list (pv 0) pe_int (fun _ _ => rfl)) (pe_ix ix_list (pv 1) pe_int (fun _ _ => rfl)) (fun _ _ => rfl)))
      (pss_cons (ps_for PassesOwn.never rfl (pi_list (pe_slice sl_list (pv 1) (po_some pe_int) po_none)) (pg_name (i := 3) nd rfl (Or.inl rfl))
        (pss_one (ps_set (i := 2) nd rfl (Or.inl rfl) (pe_dget (hu_of hr) (pe_ix ix_list (pv 0) pe_int (fun _ _ => rfl)) (pe_tup (pa_cons (pv 2) (pa_cons (pe_dget (hu_of hr) (pe_ix ix_list (pv 0) pe_int (fun _ _ => rfl)) (pv 3) (fun _ _ => rfl)) pa_nil))) (fun _ _ => rfl)))))
      (pss_one (ps_ret (pv 2)))), ?_⟩
    obtain ⟨x, row2, rfl⟩ : ∃ x r2, row = x :: r2 := by
      cases row with
      | nil => exact absurd rfl ne
      | cons x r2 => exact ⟨x, r2, rfl⟩
    have few := lg.few
    rw [List.length_cons] at few
    have dg := DGet.k (k := Sum.inr x) se.hd
    rw [valV_dkv se.ok.nd (lg.mem x List.mem_cons_self)] at dg
    refine ⟨_, rfl, s0, _, 1, _, rfl, rfl, SqL.of se.hs, atI_nat (j := 1) rfl, _, rfl, r, _, 0, _, rfl, rfl, SqL.of lg.at', atI_nat (j := 0) rfl, dd, _, rfl, dg, ?_⟩
    refine at_name (σ' := [some (.ref s0), some (.ref r), some (.str (kof dl x)), none]) rfl ?_
    refine ⟨_, rfl, _, rfl, r, _, rfl, SqL.of lg.at', fun t ht => ?_⟩
    rw [List.map_cons, cut_tail]
    have s1 := Same.new (H := H) (o := .lst (row2.map V.str)) ht
    have ht1 : upd H t (.lst (row2.map V.str)) t = _ := upd_same
    generalize upd H t (.lst (row2.map V.str)) = H1 at s1 ht1 ⊢
    refine ⟨t, rfl, ⟨_, SqL.of ht1⟩, ?_⟩
    have mws : ∀ z ∈ kds dl (x :: row2), z ∈ ws := kds_mem se.ok lg.mem
    refine for_it (walk_list (K := K) (a := t) (xs := row2.map V.str)) (fun i σ H' => ∃ x3 : Option V, σ = [some (.ref s0), some (.ref r), some (.str ((kds dl (row2.take i)).foldl f (kof dl x))), x3] ∧ L2.Same H1 H') ?_ ?_ ?_ ?_
    · exact ⟨_, rfl, fun _ _ e => e⟩
    · rintro i σ H' _ ⟨x3, rfl, s2⟩
      exact SqL.of (s2 _ _ ht1)
    · rintro i v σ H2' H2 hi ⟨x3, rfl, s2⟩ ⟨rfl, hx⟩
      obtain ⟨y, ey, rfl⟩ := str_get hx
      have my : y ∈ keysD dl := lg.mem y (List.mem_cons_of_mem _ (List.mem_of_getElem? ey))
      refine at_name (σ' := [some (.ref s0), some (.ref r), some (.str ((kds dl (row2.take i)).foldl f (kof dl x))), some (.str y)]) rfl ?_
      have se2 := (se.mono s1).mono s2
      have dg2 := DGet.k (k := Sum.inr y) se2.hd
      rw [valV_dkv se.ok.nd my] at dg2
      refine ⟨_, rfl, s0, _, 0, _, rfl, rfl, SqL.of se2.hs, atI_nat (j := 0) rfl, _, rfl, _, rfl, s0, _, 1, _, rfl, rfl, SqL.of se2.hs, atI_nat (j := 1) rfl, _, rfl, dd, _, rfl, dg2, (by show 2 ≤ sizeLine; decide), fun t2 ht2 => ?_⟩
      have s5 := Same.new (H := H2) (o := .tup [.str ((kds dl (row2.take i)).foldl f (kof dl x)), .str (kof dl y)]) ht2
      have tb : TabW H2 td ws f := ⟨_, .inl se2.ht, tabW_tb se.kw.asc.nodup⟩
      have m1 : (kds dl (row2.take i)).foldl f (kof dl x) ∈ ws := foldl_mem se.kw _ _ (se.ok.kof (lg.mem x List.mem_cons_self)) fun z hz => by
        obtain ⟨u, hu, rfl⟩ := List.mem_map.mp hz
        exact se.ok.kof (lg.mem u (List.mem_cons_of_mem _ (List.mem_of_mem_take hu)))
      refine ⟨td, _, rfl, (tb.mono s5).get m1 (se.ok.kof my) upd_same, ?_⟩
      refine at_name (σ' := [some (.ref s0), some (.ref r), some (.str (f ((kds dl (row2.take i)).foldl f (kof dl x)) (kof dl y))), some (.str y)]) rfl ?_
      refine ⟨some (.str y), ?_, s2.trans s5⟩
      rw [take_next' ey]
      unfold kds
      rw [List.map_append, List.foldl_append]
      rfl
    · rintro σ H2 ⟨x3, rfl, s2⟩
      rw [List.length_map, List.take_length]
      exact ⟨_, rfl, k _ (s1.trans s2)⟩
def spMay : Sp := fun vs H Q _ => ∃ (s td dd tl : Addr) (ws : List Str) (f : Str → Str → Str) (dl : List (Str × Str)) (tw : List Str) (r : Addr) (row : List Str), vs = [.ref s, .ref r] ∧ SetAt H s td dd tl ws f dl tw ∧ LogAt dl H r row ∧ row ≠ [] ∧ ∀ H', L2.Same H H' → Q (.bl (decide (lp f (kds dl row) ∈ tw))) H'
theorem scMay : FnScope ["_law_setting_here", "_law_log_here"] ["_law_setting_here", "_law_log_here"] (defScope sMay) := ⟨rfl, rfl, rfl, by decide +kernel, rfl, by decide +kernel, by decide +kernel⟩
theorem ok_may {g : Addr} {fd : FuncData} (F : Fun K "_law_may_twice" "_law_may_twice" sMay g fd) (M : Cee P w K mg base 1 "_law_kind" ["_law_setting_here", "_law_log_here"] spKind) : FnOk P w K mg base CX0 2 g fd ["_law_setting_here", "_law_log_here"] spMay := by
  refine F.ok scMay (fun vs H Q E h => ?_) (fun cdv A outer s H vs Q E hr h => ?_)
  · obtain ⟨s, td, dd, tl, ws, f, dl, tw, r, row, rfl, _⟩ := h
    rfl
  · obtain ⟨s0, td, dd, tl, ws, f, dl, tw, r, row, rfl, se, lg, ne, k⟩ := h
    refine ⟨_, pss_one (ps_ret (pe_and (pe_cmpR (op_neD hr.units) (pv 1) (pe_lst pa_nil) (nomark _)) (pe_one (pe_cmpR op_in_seq (pe_c M hr rfl (pa_cons (pv 0) (pa_cons (pv 1) pa_nil))) (pe_ix ix_list (pv 0) pe_int (fun _ _ => rfl)) (by rfl))))), ?_⟩
    refine ⟨_, rfl, by decide, fun e he => ?_⟩
    have s1 := Same.new (H := H) (o := .lst []) he
    have he1 : upd H e (.lst []) e = some (.lst (([] : List Str).map V.str)) := upd_same
    generalize upd H e (.lst []) = H1 at s1 he1 ⊢
    have wd : ∀ x ∈ row, Wd x := fun x hx => se.ok.wd x (lg.mem x hx)
    refine ⟨_, _, dp_strs (SqL.of (s1 _ _ lg.at')), dp_strs (SqL.of he1), shaped_strs _ wd, shaped_strs _ (fun x hx => by cases hx), ?_⟩
    rw [eqv_strs, decide_eq_false ne]
    refine ⟨_, rfl, iteT ?_⟩
    refine ⟨_, rfl, _, rfl, s0, td, dd, tl, ws, f, dl, tw, r, row, rfl, se.mono s1, lg.mono s1, ne, fun H2 s2 => ?_⟩
    have se2 := (se.mono s1).mono s2
    refine ⟨_, rfl, s0, _, 2, _, rfl, rfl, SqL.of se2.hs, atI_nat (j := 2) rfl, tl, _, rfl, .inl (SqL.of se2.hl), rfl, flat_strs _, ?_⟩
    rw [if_neg Bool.false_ne_true, inV_strs]
    exact k _ (s1.trans s2)
def spMade (S C : Addr) : Sp := fun vs H Q _ => ∃ (s td dd tl : Addr) (ws : List Str) (f : Str → Str → Str) (dl : List (Str × Str)) (tw : List Str), vs = [.ref s] ∧ SetAt H s td dd tl ws f dl tw ∧ ∀ A H', StIn S C H' A ws f dl tw → L2.Same H H' → H A.l = none → Q (.ref A.q) H'
abbrev nMade : List Str := ["_law_setting_here", "_law_table_here", "_law_deeds", "_law_some"]
theorem scMade : FnScope nMade ["_law_setting_here"] (defScope sMade) := ⟨rfl, rfl, rfl, by decide +kernel, rfl, by decide +kernel, by decide +kernel⟩
def tEither (t1 t2 : TE) : TE := fun σ H Q => t1 σ H Q ∨ t2 σ H Q
theorem PE.both {X : Cx} {e : Expr} {t1 t2 : TE} (a : PE X e t1) (b : PE X e t2) : PE X e (tEither t1 t2) := PE.either a b
theorem cut2 (x y z : V) : cutV [x, y, z] none (some 2) = [x, y] := by rfl
theorem ok_made {g : Addr} {fd : FuncData} (F : Fun K "_law_made" "_law_made" sMade g fd) (TS : STx K mg S) (T : KTx K mg C) (Z : Blp mg) (SM : SMk P w K mg base S C) (N : KMk P w K mg base C) : FnOk P w K mg base CX0 9 g fd ["_law_setting_here"] (spMade S C) := by
  refine F.ok scMade (fun vs H Q E h => ?_) (fun cdv A outer s H vs Q E hr h => ?_)
  · obtain ⟨s, td, dd, tl, ws, f, dl, tw, rfl, _⟩ := h
    rfl
  · obtain ⟨s0, td, dd, tl, ws, f, dl, tw, rfl, se, k⟩ := h
    have nd := scMade.nd
    refine ⟨_, pss_cons (ps_asg (pe_lc (own := [("_law_some", 3)]) (g := gName 3) (tt := tYes)
          (te := tEither (tCB (rDictT K) (tCons (tRevL K (tCB rListIt (tCons (tBM0 K "dict" L2.DX.rItemsT (tVar 3)) tNil))) tNil)) (tCB (rDP K) (tCons (tRevL K (LiI.tListItems (tVar 3))) tNil))) rfl nd (pi_list (pe_slice sl_list (pv 0) po_none (po_some pe_int))) (blkOk_by (own := [("_law_some", 3)]) (N := nMade) (sc := defScope sMade) (by decide +kernel))
          (fun _ _ _ _ _ => pg_name (i := 3) nd rfl (Or.inl rfl)) (fun _ _ _ _ _ => pts_nil)
          (fun _ _ _ _ _ => PE.both (pe_callTy (cr_dictT rfl (u2 hr.units)) (by rfl) Z.dict (by decide +kernel) (pa_cons (pe_revL (pe_callTy (cr_listIt rfl) (by rfl) Z.list (by decide +kernel) (pa_cons (pe_bm0 PySem.F.plainAttrs_dict PySem.F.slot_dict_items PySem.F.type_dict_items L2.DX.mt_itemsT (pv 3)) pa_nil))) pa_nil))
            (pe_callTy (cr_dictP rfl) (by rfl) Z.dict (by decide +kernel) (pa_cons (pe_revL (LiI.pe_listItems rfl (pv 3) rfl Z.list (by decide +kernel))) pa_nil))))
          (pg_unl (n := 2) rfl (pgs_cons (pg_name (i := 1) nd rfl (Or.inl rfl)) (pgs_cons (pg_name (i := 2) nd rfl (Or.inl rfl)) pgs_nil))))
      (pss_one (ps_ret (pe_setting SM TS.mgS hr rfl (pa_cons (pe_kinds N T.mgC hr rfl (pa_cons (pv 1) pa_nil)) (pa_cons (pv 2) (pa_cons (pe_callTy call_list_of (by rfl) Z.list (by decide +kernel) (pa_cons (pe_ix ix_list (pv 0) pe_int (fun _ _ => rfl)) pa_nil)) pa_nil)))))), ?_⟩
    have kw := se.kw
    dsimp only [tSeq, tAsg]
    refine ⟨_, rfl, _, rfl, s0, _, rfl, SqL.of se.hs, fun L hL => ?_⟩
    rw [cut2]
    have s1 := Same.new (H := H) (o := .lst [.ref td, .ref dd]) hL
    have hL1 : upd H L (.lst [.ref td, .ref dd]) L = _ := upd_same
    generalize upd H L (.lst [.ref td, .ref dd]) = H1 at s1 hL1 ⊢
    refine ⟨L, rfl, ⟨_, SqL.of hL1⟩, fun D hD => ?_⟩
    obtain ⟨ps, eps⟩ : ∃ ps, ps = (pairsW ws).reverse := ⟨_, rfl⟩
    refine lc_it (walk_list (K := K) (a := L) (xs := [.ref td, .ref dd])) (fun n H' => L2.Same H1 H' ∧ ((n = 0 ∧ H' D = some (.lst [])) ∨ (n = 1 ∧ ∃ a, H' D = some (.lst [.ref a]) ∧ H' a = some (.dT (mergeT [] (tabW ws f).reverse))) ∨ (n = 2 ∧ ∃ a b, H' D = some (.lst [.ref a, .ref b]) ∧ H' a = some (.dT (mergeT [] (tabW ws f).reverse)) ∧ H' b = some (.dK (dkv dl.reverse))))) ?_ ?_ ?_ ?_
    · exact ⟨Same.new hD, .inl ⟨rfl, upd_same⟩⟩
    · rintro i H' _ ⟨sm, _⟩
      exact SqL.of (sm _ _ hL1)
    · rintro i v H0 H2 hi ⟨s2, c⟩ ⟨rfl, hx⟩
      refine at_name (σ' := [some (.ref s0), none, none, some v]) rfl ⟨rfl, ?_⟩
      have se2 := (se.mono s1).mono s2
      rcases c with ⟨rfl, hD2⟩ | ⟨rfl, a, hD2, ha2⟩ | ⟨rfl, _⟩
      · obtain rfl : V.ref td = v := Option.some.inj hx
        refine yes_if ?_
        refine .inl ⟨_, rfl, tyV_dT se2.ht, td, _, rfl, rfl, se2.ht, fun v hv => ?_⟩
        have t1 := Same.new (H := H2) (o := L2.DX.itemsO v td) hv
        have hv1 : upd H2 v (L2.DX.itemsO v td) v = _ := upd_same
        generalize upd H2 v (L2.DX.itemsO v td) = G1 at t1 hv1 ⊢
        refine ⟨v, td, _, rfl, hv1, .inl (t1 _ _ se2.ht), fun G2 l ts t2 _ _ _ _ hl it => ?_⟩
        refine ⟨l, _, rfl, SqL.of hl, fun r hr0 => ?_⟩
        have t3 := Same.new (H := G2) (o := .lst (ts.map V.ref).reverse) hr0
        have hr1 : upd G2 r (.lst (ts.map V.ref).reverse) r = _ := upd_same
        have it3 := ItT.mono t3 it
        generalize upd G2 r (.lst (ts.map V.ref).reverse) = G3 at t3 hr1 it3 ⊢
        rw [← List.map_reverse] at hr1
        refine ⟨r, ts.reverse, (tabW ws f).reverse, rfl, SqL.of hr1, ItT.prT (paired_rev it3), fun q hq => ?_⟩
        have t4 := Same.new (H := G3) (o := .dT (mergeT [] (tabW ws f).reverse)) hq
        have hq1 : upd G3 q (.dT (mergeT [] (tabW ws f).reverse)) q = _ := upd_same
        generalize upd G3 q (.dT (mergeT [] (tabW ws f).reverse)) = G4 at t4 hq1 ⊢
        have t04 : L2.Same H2 G4 := t1.trans (t2.trans (t3.trans t4))
        have hD4 := t04 _ _ hD2
        have nqD : q ≠ D := fun e => by rw [e, t3 _ _ (t2 _ _ (t1 _ _ hD2))] at hq; cases hq
        refine ⟨_, hD4, by decide, fun b o e => ?_, .inr (.inl ⟨rfl, q, upd_same, (upd_ne nqD).trans hq1⟩)⟩
        rw [upd_ne (ne_of_none e hD)]
        exact t04 _ _ (s2 _ _ e)
      · obtain rfl : V.ref dd = v := Option.some.inj hx
        refine yes_if ?_
        refine .inr ⟨_, rfl, dd, _, rfl, se2.hd, fun G1 l ts t1 hl0 hts nl hl it => ?_⟩
        refine ⟨l, _, rfl, SqL.of hl, fun r hr0 => ?_⟩
        have t3 := Same.new (H := G1) (o := .lst (ts.map V.ref).reverse) hr0
        have hr1 : upd G1 r (.lst (ts.map V.ref).reverse) r = _ := upd_same
        have it3 : Paired (fun (t : Addr) (q : Key × V) => SqT K (upd G1 r (.lst (ts.map V.ref).reverse)) t [kV q.1, q.2]) ts (dkv dl) := Paired.mapP it fun t q h => SqT.of (t3 _ _ h)
        generalize upd G1 r (.lst (ts.map V.ref).reverse) = G3 at t3 hr1 it3 ⊢
        rw [← List.map_reverse] at hr1
        refine ⟨r, ts.reverse, (dkv dl).reverse, rfl, SqL.of hr1, paired_rev it3, fun q hq => ?_⟩
        have eq : mergeK [] (dkv dl).reverse = dkv dl.reverse := by
          have e1 : (dkv dl).reverse = dkv dl.reverse := by unfold dkv; rw [List.map_reverse]
          rw [e1, mergeK_nd _ _ (by
            rw [List.nil_append, dkv_keys]
            exact inr_nodup ((perm_keys (List.reverse_perm dl)).nodup_iff.mpr se.ok.nd)), List.nil_append]
        rw [eq]
        have t4 := Same.new (H := G3) (o := .dK (dkv dl.reverse)) hq
        have hq1 : upd G3 q (.dK (dkv dl.reverse)) q = _ := upd_same
        generalize upd G3 q (.dK (dkv dl.reverse)) = G4 at t4 hq1 ⊢
        have t04 : L2.Same H2 G4 := L2.Same.trans t1 (t3.trans t4)
        have hD4 := t04 _ _ hD2
        have nqD : q ≠ D := fun e => by rw [e, t3 _ _ (t1 _ _ hD2)] at hq; cases hq
        have naD : a ≠ D := ne_of ha2 hD2 (by intro z; cases z)
        refine ⟨_, hD4, (by show 1 < sizeLine; decide), fun b o e => ?_, .inr (.inr ⟨rfl, a, q, upd_same, (upd_ne naD).trans (t04 _ _ ha2), (upd_ne nqD).trans hq1⟩)⟩
        rw [upd_ne (ne_of_none e hD)]
        exact t04 _ _ (s2 _ _ e)
      · exact absurd hi (by simp)
    · rintro H2 ⟨s2, c⟩
      rcases c with ⟨z, _⟩ | ⟨z, _⟩ | ⟨_, a, b, hD2, ha2, hb2⟩
      · exact absurd z (by simp)
      · exact absurd z (by simp)
      · refine ⟨D, _, rfl, SqL.of hD2, rfl, _, _, rfl, ?_⟩
        refine at_name (σ' := [some (.ref s0), some (.ref a), none, none]) rfl ⟨_, _, rfl, ?_⟩
        refine at_name (σ' := [some (.ref s0), some (.ref a), some (.ref b), none]) rfl ⟨rfl, ?_⟩
        have se2 := (se.mono s1).mono s2
        have tb := merge_perm (f := f) kw.asc.nodup (List.reverse_perm (pairsW ws))
        rw [← tabW_rev] at tb
        refine ⟨_, rfl, ?_⟩
        refine mk_kindsR ha2 tb kw fun x H3 kn s3 => ?_
        have se3 := se2.mono s3
        refine ⟨_, rfl, _, rfl, s0, _, 2, _, rfl, rfl, SqL.of se3.hs, atI_nat (j := 2) rfl, tl, _, rfl, .inl (SqL.of se3.hl), fun m hm => ?_⟩
        have s4 := Same.new (H := H3) (o := .lst (tw.map V.str)) hm
        have hm4 : upd H3 m (.lst (tw.map V.str)) m = _ := upd_same
        generalize upd H3 m (.lst (tw.map V.str)) = H4 at s4 hm4 ⊢
        obtain ⟨kx, kd, kl, kin⟩ := kn.at.mono s4
        exact mk_setting kin (s4 _ _ (s3 _ _ hb2)) (se.ok.perm (List.reverse_perm dl)) (List.reverse_perm dl).symm se.asc hm4 se.tok fun x2 dx d2 l2 H' sn s5 => k ⟨x2, dx, x, kx, kd, kl, d2, l2⟩ H' sn.1 (s1.trans (s2.trans (s3.trans (s4.trans s5)))) (L2.Same.free (s1.trans (s2.trans (s3.trans s4))) sn.2.2.2)
end
end KT
set_option Elab.async false
set_option linter.all false
set_option maxRecDepth 100000
set_option maxHeartbeats 4000000
set_option pp.maxSteps 900
namespace KT
open PySem L2 PyProof.Rows DTp TxS
section
variable {P : Program} {w : World} {K : PySem.W.Frag} {mg : Str → Option Value} {base : Heap} {C S : Addr}
def lenAt (H : Hp) : Option (Option V) → Nat
  | some (some (V.ref a)) => match H a with
    | some (HO.lst xs) => xs.length
    | _ => 0
  | _ => 0
theorem lenAt_of {H : Hp} {a : Addr} {xs : List V} (h : H a = some (.lst xs)) : lenAt H (some (some (.ref a))) = xs.length := by
  simp [lenAt, h]
def spLog : Sp := fun vs H Q _ => ∃ (p s td dd tl : Addr) (B : Int) (ws : List Str) (f : Str → Str → Str) (dl : List (Str × Str)) (tw : List Str) (n : Nat), vs = [.ref p, .ref s, .int (n : Nat)] ∧ PurseAt H p B ∧ 0 ≤ B ∧ B ≤ 950000 ∧ SetAt H s td dd tl ws f dl tw ∧ n ≤ 60 ∧
  ∀ q row H', But p H H' → PurseAt H' p (B + 800) → H q = none → LogAt dl H' q row → row.length = n → Q (.ref q) H'
abbrev nLog : List Str := ["_law_purse_here", "_law_setting_here", "_law_many", "_law_deeds", "_law_found", "_law_size"]
theorem scLog : FnScope nLog ["_law_purse_here", "_law_setting_here", "_law_many"] (defScope sLog) := ⟨rfl, rfl, rfl, by decide +kernel, rfl, by decide +kernel, by decide +kernel⟩
theorem ok_log {g : Addr} {fd : FuncData} (F : Fun K "_law_log" "_law_log" sLog g fd) (B0 : Blt mg) (Z : Blp mg) (Dr : DrawC P w K mg base) (On : Cee P w K mg base 3 "_law_one_of" ["_law_purse_here", "_law_some"] spOneOf) : FnOk P w K mg base CX0 4 g fd ["_law_purse_here", "_law_setting_here", "_law_many"] spLog := by
  refine F.ok scLog (fun vs H Q E h => ?_) (fun cdv A outer s H vs Q E hr h => ?_)
  · obtain ⟨p, s, td, dd, tl, B, ws, f, dl, tw, n, rfl, _⟩ := h
    rfl
  · obtain ⟨p, s0, td, dd, tl, B, ws, f, dl, tw, n, rfl, hP, b0, b1, se, n20, k⟩ := h
    have nd := scLog.nd
    refine ⟨_, pss_cons (ps_par (i := 3) (j := 4) rfl nd rfl rfl (by decide) rfl rfl (pa_cons (pe_callB (call_sortedD rfl) (by rfl) Z.sorted (by decide +kernel) (pa_cons (pe_ix ix_list (pv 1) pe_int (fun _ _ => rfl)) pa_nil)) (pa_cons (pe_lst pa_nil) pa_nil)) (by rfl))
      (pss_cons (ps_while PassesOwn.never (pt_cut <| pt_cmpR op_lt (pe_callB call_len_seq (by rfl) B0.len PySem.boot_len (pa_cons (pv 4) pa_nil)) (pv 2) (nomark _))
        (pss_one (ps_if (pt_cut <| PW.pt (pw_or (pt_cmpR (op_eqD hr.units) (pv 4) (pe_lst pa_nil) (nomark _)) (pw_or1 (pt_cmpR op_gt (pe_c Dr hr rfl (pa_cons (pv 0) (pa_cons pe_int pa_nil))) pe_int (nomark _)))))
          (pss_one (ps_expr (pe_bm PySem.F.plainAttrs_list PySem.F.slot_list_append PySem.F.type_list_append mt_append (pv 4) (pa_cons (pe_c On hr rfl (pa_cons (pv 0) (pa_cons (pv 3) pa_nil))) pa_nil))))
          (pss_cons (ps_set (i := 5) nd rfl (Or.inl rfl) (pe_op op_add pe_int (pe_c Dr hr rfl (pa_cons (pv 0) (pa_cons (pe_callB (call_min2 rfl) (by rfl) B0.min boot_min (pa_cons (pe_callB call_len_seq (by rfl) B0.len PySem.boot_len (pa_cons (pv 4) pa_nil)) (pa_cons pe_int pa_nil))) pa_nil)))))
          (pss_one (ps_set (i := 4) nd rfl (Or.inl rfl) (pe_op op_cat (pv 4) (pe_slice sl_list (pv 4) (po_some (pe_op op_sub (pe_callB call_len_seq (by rfl) B0.len PySem.boot_len (pa_cons (pv 4) pa_nil)) (pv 5))) po_none))))))))
      (pss_one (ps_ret (pe_slice sl_list (pv 4) po_none (po_some (pv 2)))))), ?_⟩
    have few := se.ok.few
    have one := se.kw.pos
    have pos : 0 < (keysD dl).length := by
      obtain ⟨x, hx⟩ := List.exists_mem_of_length_pos one
      obtain ⟨q, hq, _⟩ := se.ok.all x hx
      rw [keysD_len]
      exact List.length_pos_of_mem hq
    refine ⟨_, rfl, s0, _, 1, _, rfl, rfl, SqL.of se.hs, atI_nat (j := 1) rfl, dd, _, keysD dl, rfl, .inl se.hd, dkv_keys dl, by rw [keysD_len]; omega, fun ys D pm so hD => ?_⟩
    have ey : ys = keysD dl := (sortedS_asc so (pm.nodup_iff.mpr se.ok.nd)).eq se.asc pm
    subst ey
    have s1 := Same.new (H := H) (o := .lst ((keysD dl).map V.str)) hD
    have hD1 : upd H D (.lst ((keysD dl).map V.str)) D = _ := upd_same
    generalize upd H D (.lst ((keysD dl).map V.str)) = H1 at s1 hD1 ⊢
    refine ⟨by decide, fun L hL => ⟨_, _, rfl, ?_⟩⟩
    refine at_slots (σ' := [some (.ref p), some (.ref s0), some (.int (n : Nat)), some (.ref D), some (.ref L), none]) rfl ?_
    have s2 := Same.new (H := H1) (o := .lst []) hL
    have hL2 : upd H1 L (.lst []) L = _ := upd_same
    have hLH := s1.free hL
    have nDL : D ≠ L := ne_of_none hD1 hL
    have npL : p ≠ L := (hP.mono s1).ne hL
    have npD : p ≠ D := hP.ne hD
    have hD2 := s2 _ _ hD1
    have s02 := s1.trans s2
    generalize upd H1 L (.lst []) = H2 at s2 hL2 hD2 s02 ⊢
    have b02 : But p H H2 := Same.asBut s02
    refine while_by (fun σ H' => ∃ (Fd : Addr) (row : List Str) (x5 : Option V), σ = [some (.ref p), some (.ref s0), some (.int (n : Nat)), some (.ref D), some (.ref Fd), x5] ∧ But p H H' ∧ PurseAt H' p (B + 12 * row.length) ∧ H Fd = none ∧ Fd ≠ D ∧ p ≠ Fd ∧ H' D = some (.lst ((keysD dl).map V.str)) ∧ H' Fd = some (.lst (row.map V.str)) ∧ row.length ≤ n + 5 ∧ ∀ x ∈ row, x ∈ keysD dl)
      (fun σ H' => n + 6 - lenAt H' σ[4]?) ?_ ?_ (fun σ H Q Q' i ⟨Pn, h, kk⟩ => ⟨Pn, h, fun b H' q => i _ _ (kk _ _ q)⟩)
    · exact ⟨L, [], none, rfl, b02, (hP.mono s02).le (by simp), hLH, Ne.symm nDL, npL, hD2, hL2, by simp, fun x hx => by cases hx⟩
    · rintro σ H3 ⟨Fd, row, x5, rfl, b3, hP3, hF0, nFD, npF, hD3, hF3, lrow, mrow⟩
      refine ⟨fun b H' => H' = H3 ∧ b = decide ((row.length : Int) < (n : Nat)), ?_, ?_⟩
      · refine ⟨_, rfl, Fd, _, rfl, .inl (SqL.of hF3), _, rfl, _, _, rfl, rfl, _, rfl, rfl, ?_⟩
        rw [List.length_map]
      rintro b H3 ⟨rfl, rfl⟩
      refine ite2 (fun hlt => ?_) (fun hge => ?_)
      · have hlt := of_decide_eq_true hlt
        have hlt' : row.length < n := by omega
        have mu : n + 6 - lenAt H3 ([some (V.ref p), some (.ref s0), some (.int (n : Nat)), some (.ref D), some (.ref Fd), x5] : L2.St)[4]? = n + 6 - row.length := by
          rw [show ([some (V.ref p), some (.ref s0), some (.int (n : Nat)), some (.ref D), some (.ref Fd), x5] : L2.St)[4]? = some (some (.ref Fd)) from rfl, lenAt_of hF3, List.length_map]
        refine ⟨fun b H' => But p H H' ∧ PurseAt H' p (B + 12 * row.length + 4) ∧ H' D = some (.lst ((keysD dl).map V.str)) ∧ H' Fd = some (.lst (row.map V.str)) ∧ (b = false → row ≠ []), ?_, ?_⟩
        · refine ⟨_, rfl, by decide, fun e he => ?_⟩
          have t1 := Same.new (H := H3) (o := .lst []) he
          have he1 : upd H3 e (.lst []) e = some (.lst (([] : List Str).map V.str)) := upd_same
          generalize upd H3 e (.lst []) = H4 at t1 he1 ⊢
          have wd : ∀ x ∈ row, Wd x := fun x hx => se.ok.wd x (mrow x hx)
          refine ⟨_, _, dp_strs (SqL.of (t1 _ _ hF3)), dp_strs (SqL.of he1), shaped_strs _ wd, shaped_strs _ (fun x hx => by cases hx), _, rfl, ?_⟩
          rw [eqv_strs]
          refine ite2 (fun z => ?_) (fun z => ?_)
          · exact ⟨b3.same t1, (hP3.mono t1).le (by omega), t1 _ _ hD3, t1 _ _ hF3, fun e => by cases e⟩
          · have z : row ≠ [] := by simpa using z
            refine ⟨_, rfl, p, 3, _, rfl, hP3.mono t1, by omega, by omega, by decide, by decide, fun r H5 bt5 hP5 r0 r1 => ?_⟩
            refine ⟨_, _, rfl, rfl, _, rfl, ?_⟩
            exact ⟨(b3.same t1).trans bt5, hP5, bt5 _ _ (Ne.symm npD) (t1 _ _ hD3), bt5 _ _ (Ne.symm npF) (t1 _ _ hF3), fun _ => z⟩
        · rintro b H4 ⟨b4, hP4, hD4, hF4, ne4⟩
          refine ite2 (fun hb => ?_) (fun hb => ?_)
          · refine ⟨_, rfl, .inl ⟨rfl, _, SqL.of hF4⟩, _, rfl, _, rfl, p, D, _, _, rfl, npD, hP4, by omega, by omega, hD4, by rw [List.length_map]; exact pos, by rw [List.length_map, keysD_len]; omega, fun x H5 hx bt5 hP5 => ?_⟩
            obtain ⟨y, my, rfl⟩ := List.mem_map.mp hx
            have hF5 := bt5 _ _ (Ne.symm npF) hF4
            have hD5 := bt5 _ _ (Ne.symm npD) hD4
            refine ⟨Fd, _, _, rfl, rfl, hF5, by rw [List.length_map]; exact small1000 (by omega), ?_⟩
            refine ⟨⟨Fd, row ++ [y], x5, rfl, (b4.trans bt5).fresh hF0, ?_, hF0, nFD, npF, (upd_ne nFD.symm).trans hD5, ?_, ?_, ?_⟩, ?_⟩
            · rw [List.length_append, List.length_singleton]
              exact (hP5.upd npF).le (by omega)
            · rw [upd_same, List.map_append]; rfl
            · rw [List.length_append, List.length_singleton]; omega
            · intro z hz
              rcases List.mem_append.mp hz with hz | hz
              · exact mrow z hz
              · rw [List.mem_singleton.mp hz]; exact my
            · rw [mu]
              have e1 : lenAt (upd H5 Fd (.lst (row.map V.str ++ [.str y]))) ([some (V.ref p), some (.ref s0), some (.int (n : Nat)), some (.ref D), some (.ref Fd), x5] : L2.St)[4]? = row.length + 1 := by
                refine (lenAt_of upd_same).trans ?_
                rw [List.length_append, List.length_map, List.length_singleton]
              rw [e1]
              omega
          · have hne := ne4 (by simpa using hb)
            have l1 : 1 ≤ row.length := List.length_pos_iff.mpr hne
            refine ⟨_, rfl, _, rfl, Fd, _, rfl, .inl (SqL.of hF4), _, _, rfl, ?_⟩
            rw [List.length_map]
            obtain ⟨c, ec, c1, c5, cl⟩ : ∃ c : Nat, (if (5 : Int) < (row.length : Nat) then (5 : Int) else (row.length : Nat)) = (c : Nat) ∧ 1 ≤ c ∧ c ≤ 5 ∧ c ≤ row.length := by
              by_cases z : (5 : Int) < (row.length : Nat)
              · exact ⟨5, by rw [if_pos z]; rfl, by omega, by omega, by omega⟩
              · exact ⟨row.length, by rw [if_neg z], by omega, by omega, by omega⟩
            rw [ec]
            refine ⟨p, c, _, rfl, hP4, by omega, by omega, by omega, by omega, fun r H5 bt5 hP5 r0 r1 => ?_⟩
            obtain ⟨m, rfl⟩ := nat_of (m := 0) r0
            refine ⟨_, _, rfl, rfl, ?_⟩
            refine at_name (σ' := [some (.ref p), some (.ref s0), some (.int (n : Nat)), some (.ref D), some (.ref Fd), some (.int (1 + (m : Nat)))]) rfl ?_
            have hF5 := bt5 _ _ (Ne.symm npF) hF4
            have hD5 := bt5 _ _ (Ne.symm npD) hD4
            refine ⟨_, rfl, _, rfl, _, rfl, Fd, _, rfl, .inl (SqL.of hF5), _, rfl, _, _, rfl, rfl, _, rfl, Fd, _, rfl, SqL.of hF5, fun t ht => ?_⟩
            rw [List.length_map]
            have em : ((row.length : Nat) : Int) - (1 + (m : Nat)) = ((row.length - (1 + m) : Nat) : Int) := by omega
            rw [em, cut_from _ _ (by rw [List.length_map]; omega), ← List.map_drop]
            have t6 := Same.new (H := H5) (o := .lst ((row.drop (row.length - (1 + m))).map V.str)) ht
            have ht6 : upd H5 t (.lst ((row.drop (row.length - (1 + m))).map V.str)) t = _ := upd_same
            generalize upd H5 t (.lst ((row.drop (row.length - (1 + m))).map V.str)) = H6 at t6 ht6 ⊢
            have ld : (row.drop (row.length - (1 + m))).length = 1 + m := by rw [List.length_drop]; omega
            refine ⟨Fd, t, _, _, rfl, rfl, t6 _ _ hF5, ht6, by rw [List.length_map, List.length_map, sizeLine_eq, ld]; omega, fun q hq => ?_⟩
            refine at_name (σ' := [some (.ref p), some (.ref s0), some (.int (n : Nat)), some (.ref D), some (.ref q), some (.int (1 + (m : Nat)))]) rfl ?_
            have b6 : But p H H6 := (b4.trans bt5).same t6
            have hP6 := hP5.mono t6
            have npq : p ≠ q := hP6.ne hq
            have nqD : q ≠ D := fun e => by rw [e, t6 _ _ hD5] at hq; cases hq
            refine ⟨⟨q, row ++ row.drop (row.length - (1 + m)), _, rfl, b6.new hq, ?_, b6.free hP6 hq, nqD, npq, (upd_ne nqD.symm).trans (t6 _ _ hD5), ?_, ?_, ?_⟩, ?_⟩
            · rw [List.length_append, ld]
              exact (hP6.upd npq).le (by omega)
            · rw [upd_same, List.map_append]
            · rw [List.length_append, ld]; omega
            · intro z hz
              rcases List.mem_append.mp hz with hz | hz
              · exact mrow z hz
              · exact mrow z (List.mem_of_mem_drop hz)
            · rw [mu]
              have e1 : lenAt (upd H6 q (.lst (row.map V.str ++ (row.drop (row.length - (1 + m))).map V.str))) ([some (V.ref p), some (.ref s0), some (.int (n : Nat)), some (.ref D), some (.ref q), some (.int (1 + (m : Nat)))] : L2.St)[4]? = row.length + (1 + m) := by
                refine (lenAt_of upd_same).trans ?_
                rw [List.length_append, List.length_map, List.length_map, ld]
              rw [e1]
              omega
      · have hge : n ≤ row.length := Nat.le_of_not_lt fun z => hge (decide_eq_true (by omega))
        refine ⟨_, rfl, _, rfl, _, rfl, Fd, _, rfl, SqL.of hF3, fun q hq => ?_⟩
        rw [cut_to _ _ (by rw [List.length_map]; exact hge), ← List.map_take]
        have lt : (row.take n).length = n := by rw [List.length_take]; omega
        have npq : p ≠ q := hP3.ne hq
        exact k q (row.take n) _ (b3.new hq) ((hP3.upd npq).le (by omega)) (b3.free hP3 hq) ⟨upd_same, by omega, fun x hx => mrow x (List.mem_of_mem_take hx)⟩ lt
end
end KT
set_option Elab.async false
set_option linter.all false
set_option maxRecDepth 100000
set_option maxHeartbeats 4000000
set_option pp.maxSteps 900
namespace KT
open PySem L2 PyProof.Rows DTp TxS
def rLtI : R2 := fun x y H Q => ∃ i j, x = .int i ∧ y = .int j ∧ Q (.bl (decide (i < j))) H
theorem op_ltI {X : Cx} : OpR X (compareOp .Lt) rLtI := op_lt
def rLenS (K : PySem.W.Frag) : List V → Hp → VK → Prop := fun xs H Q => ∃ p ys, xs = [.ref p] ∧ (SqL K H p ys ∨ SqT K H p ys) ∧ Q (.int ys.length) H
theorem cr_lenS {X : Cx} : CallR X (.builtin "len") (rLenS X.K) := call_len_seq
/-- pairs of words and kinds, made one by one -/
structure DlPv (G : Hp) (p D : Addr) (B : Int) (W ws : List Str) (j : Nat) (H : Hp) : Prop where
  bt : But p G H
  hP : PurseAt H p (B + 4 * j)
  ls : ∃ (ts : List Addr) (L : List (Str × Str)), H D = some (.lst (ts.map V.ref)) ∧ Paired (fun t q => H t = some (.tup [.str q.1, .str q.2])) ts L ∧ keysD L = W.take j ∧ (∀ q ∈ L, q.2 ∈ ws) ∧ ∀ i, i < j → i < ws.length → (L.map (·.2))[i]? = ws[i]?
theorem paired_snoc {α β : Type} {F : α → β → Prop} {xs : List α} {ys : List β} {x : α} {y : β} (h : Paired F xs ys) (r : F x y) : Paired F (xs ++ [x]) (ys ++ [y]) := paired_append h (.cons r .nil)
theorem tups_dkv {K : PySem.W.Frag} {H : Hp} : ∀ {ts : List Addr} {L : List (Str × Str)}, Paired (fun t q => H t = some (.tup [.str q.1, .str q.2])) ts L → Paired (fun p (kv : Key × V) => SqT K H p [kV kv.1, kv.2]) ts (dkv L)
  | _, _, .nil => .nil
  | _, _, .cons r t => .cons (SqT.of r) (tups_dkv t)
section
variable {P : Program} {w : World} {K : PySem.W.Frag} {mg : Str → Option Value} {base : Heap} {C S : Addr}
def spSetting : Sp := fun vs H Q _ => ∃ (p : Addr) (B : Int) (mo : Nat), vs = [.ref p, .int mo] ∧ 0 < mo ∧ mo ≤ 4 ∧ PurseAt H p B ∧ 0 ≤ B ∧ B ≤ 800000 ∧
  ∀ s td dd tl ws f dl tw H', But p H H' → PurseAt H' p (B + 4000) → SetAt H' s td dd tl ws f dl tw → Q (.ref s) H'
abbrev nSetting : List Str := ["_law_purse_here", "_law_most", "_law_table_here", "_law_kinds", "_law_words_here", "_law_deeds", "_law_twice", "_law_word_here", "_law_at", "_law_kind_here"]
theorem scSetting : FnScope nSetting ["_law_purse_here", "_law_most"] (defScope sSetting) := ⟨rfl, rfl, rfl, by decide +kernel, rfl, by decide +kernel, by decide +kernel⟩
structure SetC (P : Program) (w : World) (K : PySem.W.Frag) (mg : Str → Option Value) (base : Heap) : Prop where
  tab : Cee P w K mg base 5 "_law_table" ["_law_purse_here", "_law_most"] spTable
  kof : Cee P w K mg base 1 "_law_kinds_of" ["_law_table_here"] spKindsOf
  sqr : Cee P w K mg base 2 "_law_squares" ["_law_table_here"] spSquares
  wor : Cee P w K mg base 4 "_law_words" ["_law_purse_here", "_law_many"] spWords
  draw : DrawC P w K mg base
  one : Cee P w K mg base 3 "_law_one_of" ["_law_purse_here", "_law_some"] spOneOf
  hen : mg "enumerate" = none
theorem ok_setting {g : Addr} {fd : FuncData} (F : Fun K "_law_setting" "_law_setting" sSetting g fd) (B0 : Blt mg) (Z : Blp mg) (M : SetC P w K mg base) : FnOk P w K mg base CX0 6 g fd ["_law_purse_here", "_law_most"] spSetting := by
  refine F.ok scSetting (fun vs H Q E h => ?_) (fun cdv A outer s H vs Q E hr h => ?_)
  · obtain ⟨p, B, mo, rfl, _⟩ := h
    rfl
  · obtain ⟨p, B, mo, rfl, mo0, mo4, hP, b0, b1, k⟩ := h
    have nd := scSetting.nd
    refine ⟨_, pss_cons (ps_set (i := 2) nd rfl (Or.inl rfl) (pe_c M.tab hr rfl (pa_cons (pv 0) (pa_cons (pv 1) pa_nil))))
      (pss_cons (ps_set (i := 3) nd rfl (Or.inr rfl) (pe_c M.kof hr rfl (pa_cons (pv 2) pa_nil)))
      (pss_cons (ps_set (i := 4) nd rfl (Or.inl rfl) (pe_c M.wor hr rfl (pa_cons (pv 0) (pa_cons (pe_op op_add (pe_callB cr_lenS (by rfl) B0.len PySem.boot_len (pa_cons (pv 3) pa_nil)) (pe_c M.draw hr rfl (pa_cons (pv 0) (pa_cons pe_int pa_nil)))) pa_nil))))
      (pss_cons (ps_set (i := 5) nd rfl (Or.inr rfl) (pe_callTy (cr_dictP rfl) (by rfl) Z.dict (by decide +kernel) (pa_cons
        (pe_lc (own := [("_law_word_here", 7), ("_law_at", 8)]) (g := gXY K 8 7) (tt := tYes) (te := tTup (tCons (tVar 7) (tCons (tIf (tTest (tOp rLtI (tVar 8) (tCB (rLenS K) (tCons (tVar 3) tNil)))) (tOp (rIxL K) (tVar 3) (tVar 8)) (tCall spOneOf [] E0 (tCons (tVar 0) (tCons (tVar 3) tNil)))) tNil))) rfl nd (pi_enum (by rfl) M.hen (pa_cons (pv 4) pa_nil)) (blkOk_by (own := [("_law_word_here", 7), ("_law_at", 8)]) (N := nSetting) (sc := defScope sSetting) (by decide +kernel))
          (fun _ _ _ _ _ => pg_tup rfl (pgs_cons (pg_name (i := 8) nd rfl (Or.inl rfl)) (pgs_cons (pg_name (i := 7) nd rfl (Or.inl rfl)) pgs_nil))) (fun _ _ _ _ _ => pts_nil)
          (fun _ _ _ _ _ => pe_tup (pa_cons (pv 7) (pa_cons (pe_ifExp (pt_cmpR op_ltI (pv 8) (pe_callB cr_lenS (by rfl) B0.len PySem.boot_len (pa_cons (pv 3) pa_nil)) (nomark _)) (pe_ix ix_list (pv 3) (pv 8) (fun _ _ => rfl)) (pe_c M.one hr rfl (pa_cons (pv 0) (pa_cons (pv 3) pa_nil)))) pa_nil)))) pa_nil)))
      (pss_cons (ps_set (i := 6) nd rfl (Or.inl rfl) (pe_c M.sqr hr rfl (pa_cons (pv 2) pa_nil)))
      (pss_cons (ps_cut (ps_if (pt_cmpR op_eq (pe_c M.draw hr rfl (pa_cons (pv 0) (pa_cons pe_int pa_nil))) pe_int (nomark _)) (pss_one (ps_setLc (i := 6) (own := [("_law_kind_here", 9)]) (g := gName 9) (tt := tTest (tOp rEq (tCall spDraw [] E0 (tCons (tVar 0) (tCons (tC (.int 2)) tNil))) (tC (.int 0)))) (te := tVar 9) rfl nd rfl rfl (sw_true rfl rfl rfl (by decide +kernel)) (pi_list (pv 6)) (blkOk_by (own := [("_law_kind_here", 9)]) (N := nSetting) (sc := defScope sSetting) (by decide +kernel))
          (fun _ _ _ _ _ => pg_name (i := 9) nd rfl (Or.inl rfl)) (fun _ _ _ _ _ => pts_one (pt_cmpR op_eq (pe_c M.draw hr rfl (pa_cons (pv 0) (pa_cons pe_int pa_nil))) pe_int (nomark _))) (fun _ _ _ _ _ => pv 9))) pss_nil))
      (pss_one (ps_ret (pe_lst (pa_cons (pv 2) (pa_cons (pe_callTy (cr_dictP rfl) (by rfl) Z.dict (by decide +kernel) (pa_cons
        (pe_lc (own := [("_law_word_here", 7)]) (g := gName 7) (tt := tYes) (te := tTup (tCons (tVar 7) (tCons (tDGet (tVar 5) (tVar 7)) tNil))) rfl nd (pi_list (pe_callB (call_sortedD rfl) (by rfl) Z.sorted (by decide +kernel) (pa_cons (pv 5) pa_nil))) (blkOk_by (own := [("_law_word_here", 7)]) (N := nSetting) (sc := defScope sSetting) (by decide +kernel))
          (fun _ _ _ _ _ => pg_name (i := 7) nd rfl (Or.inl rfl)) (fun _ _ _ _ _ => pts_nil) (fun _ _ _ _ _ => pe_tup (pa_cons (pv 7) (pa_cons (pe_dget (hu_of hr) (pv 5) (pv 7) (fun _ _ => rfl)) pa_nil)))) pa_nil)) (pa_cons (pv 6) pa_nil))))))))))), ?_⟩
    refine ⟨_, rfl, _, rfl, p, B, mo, rfl, mo0, mo4, hP, b0, by omega, fun td ws f H1 htd0 bt1 hP1 htd kw => ?_⟩
    refine at_name (σ' := [some (.ref p), some (.int (mo : Nat)), some (.ref td), none, none, none, none, none, none, none]) rfl ?_
    refine ⟨_, rfl, td, ws, f, rfl, htd, kw, fun kl H2 s2 hkl0 hkl => ?_⟩
    refine at_name (σ' := [some (.ref p), some (.int (mo : Nat)), some (.ref td), some (.ref kl), none, none, none, none, none, none]) rfl ?_
    have l4 := kw.few
    have l1 := kw.pos
    have hP2 := hP1.mono s2
    refine ⟨_, rfl, _, rfl, kl, _, rfl, .inl (SqL.of hkl), _, rfl, p, 3, _, rfl, hP2, by omega, by omega, by decide, by decide, fun r H3 bt3 hP3 r0 r1 => ?_⟩
    obtain ⟨m, rfl⟩ := nat_of (m := 0) r0
    rw [List.length_map]
    refine ⟨_, _, rfl, rfl, p, _, _, rfl, hP3, by omega, by omega, by omega, by omega, fun wl W H4 hwl0 bt4 hP4 hwl lW wdW ndW => ?_⟩
    refine at_name (σ' := [some (.ref p), some (.int (mo : Nat)), some (.ref td), some (.ref kl), some (.ref wl), none, none, none, none, none]) rfl ?_
    have lW' : W.length = ws.length + m := by omega
    have npk : p ≠ kl := hP2.strs hkl
    have npt : p ≠ td := by
      rintro rfl
      obtain ⟨_, _, _, _, e, _⟩ := hP1
      rw [htd] at e; cases e
    have hk4 := bt4 _ _ (Ne.symm npk) (bt3 _ _ (Ne.symm npk) hkl)
    have ht4 := bt4 _ _ (Ne.symm npt) (bt3 _ _ (Ne.symm npt) (s2 _ _ htd))
    have npw : p ≠ wl := hP4.strs hwl
    have b04 : But p H H4 := ((bt1.same s2).trans bt3).trans bt4
    refine ⟨_, rfl, wl, _, rfl, SqL.of hwl, fun D hD => ?_⟩
    have npD : p ≠ D := hP4.ne hD
    refine lc_it (walk_enum (K := K) (a := wl) (xs := W.map V.str)) (DlPv H4 p D (B + 2000 + 4 + 1000) W ws) ?_ ?_ ?_ ?_
    · exact ⟨(But.refl p H4).new hD, (hP4.upd npD).le (by omega), [], [], upd_same, .nil, rfl, (fun q hq => by cases hq), fun i h => by omega⟩
    · intro i H' _ pv
      exact SqL.of (pv.bt _ _ (Ne.symm npw) hwl)
    · rintro i v H5 H6 hi ⟨bt5, hP5, ts, L, hD5, pr, ks, mk, hk⟩ ⟨q, a, b, rfl, hq, rfl, ha, hb⟩
      rw [List.length_map] at hi
      obtain ⟨x, ex, rfl⟩ := str_get hb
      obtain rfl := Option.some.inj ha
      have nqD : D ≠ q := ne_of_none hD5 hq
      have npq : p ≠ q := hP5.ne hq
      have s6 := Same.new (H := H5) (o := .tup [.int (i : Nat), .str x]) hq
      have hq6 : upd H5 q (.tup [.int (i : Nat), .str x]) q = _ := upd_same
      generalize upd H5 q (.tup [.int (i : Nat), .str x]) = H6 at s6 hq6 ⊢
      refine ⟨q, _, rfl, SqT.of hq6, rfl, _, _, rfl, ?_⟩
      refine at_name (σ' := [some (.ref p), some (.int (mo : Nat)), some (.ref td), some (.ref kl), some (.ref wl), none, none, none, some (.int (i : Nat)), none]) rfl ⟨_, _, rfl, ?_⟩
      refine at_name (σ' := [some (.ref p), some (.int (mo : Nat)), some (.ref td), some (.ref kl), some (.ref wl), none, none, some (.str x), some (.int (i : Nat)), none]) rfl ⟨rfl, rfl, yes_if ?_⟩
      have hk6 := s6 _ _ (bt5 _ _ (Ne.symm npk) hk4)
      have hP6 := hP5.mono s6
      have fin : ∀ H7 y t, But p H6 H7 → PurseAt H7 p (B + 2000 + 4 + 1000 + 4 * i + 4) → y ∈ ws → (i < ws.length → ws[i]? = some y) → H7 t = none → ∃ acc, upd H7 t (.tup [.str x, .str y]) D = some (.lst acc) ∧ acc.length < sizeLine ∧ DlPv H4 p D (B + 2000 + 4 + 1000) W ws (i + 1) (upd (upd H7 t (.tup [.str x, .str y])) D (.lst (acc ++ [V.ref t]))) := by
        intro H7 y t bt7 hP7 my hy ht
        have s7 := Same.new (H := H7) (o := .tup [.str x, .str y]) ht
        have ht7 : upd H7 t (.tup [.str x, .str y]) t = _ := upd_same
        have npt2 : p ≠ t := hP7.ne ht
        have hP8 := hP7.mono s7
        generalize upd H7 t (.tup [.str x, .str y]) = H8 at s7 ht7 hP8 ⊢
        have hD8 := s7 _ _ (bt7 _ _ (Ne.symm npD) (s6 _ _ hD5))
        have ltD : t ≠ D := ne_of ht7 hD8 (by intro z; cases z)
        have lts : ts.length = i := by
          rw [pr.length]
          have := congrArg List.length ks
          rw [keysD_len, List.length_take] at this
          omega
        refine ⟨_, hD8, by rw [List.length_map]; exact small1000 (by omega), ?_, (hP8.upd npD).le (by omega), ts ++ [t], L ++ [(x, y)], ?_, ?_, ?_, ?_, ?_⟩
        · refine But.fresh ?_ hD
          exact fun b o n e => s7 _ _ (bt7 b o n (s6 _ _ (bt5 b o n e)))
        · rw [upd_same, List.map_append]; rfl
        · refine paired_snoc (Paired.mapP pr fun t2 q2 h => ?_) ((upd_ne ltD).trans ht7)
          have n1 : t2 ≠ D := ne_of h hD5 (by intro z; cases z)
          have n2 : t2 ≠ p := fun e => by
            obtain ⟨_, _, _, _, e3, _⟩ := hP5
            rw [e, e3] at h; cases h
          exact (upd_ne n1).trans (s7 _ _ (bt7 _ _ n2 (s6 _ _ h)))
        · rw [take_next' ex]
          unfold keysD at ks ⊢
          rw [List.map_append, ks]
          rfl
        · intro z hz
          rcases List.mem_append.mp hz with hz | hz
          · exact mk z hz
          · rw [List.mem_singleton.mp hz]; exact my
        · intro j hj hj2
          have lL : (L.map (·.2)).length = i := by rw [List.length_map, ← pr.length]; exact lts
          rw [List.map_append]
          by_cases e : j < i
          · rw [List.getElem?_append_left (by omega)]
            exact hk j e hj2
          · have e2 : j = i := by omega
            subst e2
            rw [List.getElem?_append_right (by omega), lL, Nat.sub_self, hy hj2]
            rfl
      refine ⟨_, rfl, _, rfl, _, rfl, kl, _, rfl, .inl (SqL.of hk6), _, _, rfl, rfl, _, rfl, ?_⟩
      rw [List.length_map]
      refine ite2 (fun z => ?_) (fun z => ?_)
      · have hlt : i < ws.length := by have := of_decide_eq_true z; omega
        have ei : ws[i]? = some ws[i] := List.getElem?_eq_getElem hlt
        refine ⟨_, rfl, _, rfl, kl, _, _, _, rfl, rfl, SqL.of hk6, atI_nat (j := i) (by rw [List.getElem?_map, ei]; rfl), (by show 2 ≤ sizeLine; decide), fun t ht => ?_⟩
        exact fin H6 ws[i] t (But.refl _ _) (hP6.le (by omega)) (List.getElem_mem hlt) (fun _ => ei) ht
      · have hge : ¬ i < ws.length := fun q => z (decide_eq_true (by omega))
        refine ⟨_, rfl, _, rfl, p, kl, _, _, rfl, npk, hP6, by omega, by omega, hk6, by rw [List.length_map]; omega, by rw [List.length_map]; omega, fun y H7 hy bt7 hP7 => ⟨(by show 2 ≤ sizeLine; decide), fun t ht => ?_⟩⟩
        obtain ⟨y, my, rfl⟩ := List.mem_map.mp hy
        exact fin H7 y t bt7 hP7 my (fun q => absurd q hge) ht
    · rintro H5 ⟨bt5, hP5, ts, L, hD5, pr, ks, mk, hk⟩
      rw [List.length_map, List.take_length] at ks
      rw [List.length_map] at hP5 hk
      have okL : DlOk ws L := {
        nd := by rw [ks]; exact ndW
        wd := by rw [ks]; exact wdW
        few := by have := congrArg List.length ks; rw [keysD_len] at this; omega
        kd := mk
        all := fun x hx => by
          obtain ⟨i, hi⟩ := List.mem_iff_getElem?.mp hx
          obtain ⟨hlt, _⟩ := List.getElem?_eq_some_iff.mp hi
          have := hk i (by omega) hlt
          rw [hi] at this
          obtain ⟨z, hz, e⟩ := List.mem_map.mp (List.mem_of_getElem? this)
          exact ⟨z, hz, e⟩ }
      refine ⟨D, ts, dkv L, rfl, SqL.of hD5, tups_dkv pr, fun dl0 hdl => ?_⟩
      have e1 : mergeK [] (dkv L) = dkv L := by
        rw [mergeK_nd _ _ (by
          rw [List.nil_append, dkv_keys]
          exact inr_nodup okL.nd), List.nil_append]
      rw [e1]
      have s6 := Same.new (H := H5) (o := .dK (dkv L)) hdl
      have hd6 : upd H5 dl0 (.dK (dkv L)) dl0 = _ := upd_same
      generalize upd H5 dl0 (.dK (dkv L)) = H6 at s6 hd6 ⊢
      refine at_name (σ' := [some (.ref p), some (.int (mo : Nat)), some (.ref td), some (.ref kl), some (.ref wl), some (.ref dl0), none, none, none, none]) rfl ?_
      have ht6 := s6 _ _ (bt5 _ _ (Ne.symm npt) ht4)
      have hP6 := hP5.mono s6
      have b06 : But p H H6 := (b04.trans bt5).same s6
      refine ⟨_, rfl, td, ws, f, rfl, ht6, kw, fun sq H7 s7 hsq0 hsq => ?_⟩
      refine at_name (σ' := [some (.ref p), some (.int (mo : Nat)), some (.ref td), some (.ref kl), some (.ref wl), some (.ref dl0), some (.ref sq), none, none, none]) rfl ?_
      have hP7 := hP6.mono s7
      have ht7 := s7 _ _ ht6
      have hd7 := s7 _ _ hd6
      have npd : p ≠ dl0 := by
        rintro rfl
        obtain ⟨_, _, _, _, e, _⟩ := hP6
        rw [hd6] at e; cases e
      have nps : p ≠ sq := hP7.strs hsq
      have asq : Asc (sqs ws f) := List.Pairwise.sublist List.filter_sublist kw.asc
      refine ⟨fun σ' H' => ∃ (tl : Addr) (tw : List Str), σ' = [some (.ref p), some (.int (mo : Nat)), some (.ref td), some (.ref kl), some (.ref wl), some (.ref dl0), some (.ref tl), none, none, none] ∧ But p H7 H' ∧ PurseAt H' p (B + 3500) ∧ H' tl = some (.lst (tw.map V.str)) ∧ tw.Sublist (sqs ws f), ?_, ?_⟩
      · refine ⟨_, rfl, p, 2, _, rfl, hP7, by omega, by omega, by decide, by decide, fun r2 H8 bt8 hP8 r20 r21 => ⟨rfl, _, rfl, ?_⟩⟩
        have hsq8 := bt8 _ _ (Ne.symm nps) hsq
        refine ite2 (fun z => ?_) (fun z => ?_)
        · refine ⟨_, rfl, sq, rfl, ⟨_, SqL.of hsq8⟩, fun E2 hE => ?_⟩
          have npE : p ≠ E2 := hP8.ne hE
          have lsq : (sqs ws f).length ≤ 4 := Nat.le_trans (List.length_filter_le _ _) l4
          refine lc_it (walk_list (K := K) (a := sq) (xs := (sqs ws f).map V.str)) (fun j H' => But p H8 H' ∧ PurseAt H' p (B + 2000 + 4 + 1000 + 4 * W.length + 4 + 4 * j) ∧ ∃ tw : List Str, H' E2 = some (.lst (tw.map V.str)) ∧ tw.Sublist ((sqs ws f).take j)) ?_ ?_ ?_ ?_
          · exact ⟨(But.refl p H8).new hE, (hP8.upd npE).le (by omega), [], upd_same, List.nil_sublist _⟩
          · rintro j H' _ ⟨bt9, _⟩
            exact SqL.of (bt9 _ _ (Ne.symm nps) hsq8)
          · rintro j v H9' H9 hj ⟨bt9, hP9, tw, hE9, sub⟩ ⟨rfl, hx⟩
            rw [List.length_map] at hj
            obtain ⟨x, ex, rfl⟩ := str_get hx
            refine at_name (σ' := [some (.ref p), some (.int (mo : Nat)), some (.ref td), some (.ref kl), some (.ref wl), some (.ref dl0), some (.ref sq), none, none, some (.str x)]) rfl ⟨rfl, ?_⟩
            refine ⟨_, rfl, p, 2, _, rfl, hP9, by omega, by omega, by decide, by decide, fun r3 H10 bt10 hP10 _ _ => ⟨rfl, _, rfl, ?_⟩⟩
            have hE10 := bt10 _ _ (Ne.symm npE) hE9
            have ltw : tw.length ≤ 4 := Nat.le_trans sub.length_le (by rw [List.length_take]; omega)
            rw [take_next' ex]
            refine ite2 (fun z => ?_) (fun z => ?_)
            · refine ⟨_, rfl, _, hE10, by rw [List.length_map]; exact small1000 (by omega), (bt9.trans bt10).fresh hE, (hP10.upd npE).le (by omega), tw ++ [x], ?_, sub.append_right [x]⟩
              rw [upd_same, List.map_append]; rfl
            · exact ⟨bt9.trans bt10, hP10.le (by omega), tw, hE10, sub.trans (List.sublist_append_left _ _)⟩
          · rintro H9 ⟨bt9, hP9, tw, hE9, sub⟩
            rw [List.length_map] at hP9 sub
            rw [List.take_length] at sub
            refine at_name (σ' := [some (.ref p), some (.int (mo : Nat)), some (.ref td), some (.ref kl), some (.ref wl), some (.ref dl0), some (.ref E2), none, none, none]) rfl ?_
            exact ⟨E2, tw, rfl, bt8.trans bt9, hP9.le (by omega), hE9, sub⟩
        · exact ⟨sq, sqs ws f, rfl, bt8, hP8.le (by omega), hsq8, List.Sublist.refl _⟩
      · rintro σ' H8 ⟨tl, tw, rfl, bt8, hP8, htl8, sub⟩
        have ht8 := bt8 _ _ (Ne.symm npt) ht7
        have hd8 := bt8 _ _ (Ne.symm npd) hd7
        have nas : (keysD L).Nodup := okL.nd
        have asc2 := ascOf_asc nas
        obtain ⟨dl, edl⟩ : ∃ dl : List (Str × Str), dl = (ascOf (keysD L)).map fun x => (x, kof L x) := ⟨_, rfl⟩
        have kdl : keysD dl = ascOf (keysD L) := by
          rw [edl]
          unfold keysD
          rw [List.map_map]
          exact List.map_id _
        have pdl : dl.Perm L := by
          rw [edl]
          have q := (ascOf_perm (keysD L)).map fun x => (x, kof L x)
          rw [by_keys nas] at q
          exact q
        have dkl : ((ascOf (keysD L)).map fun x => ((Sum.inr x : Key), V.str (kof L x))) = dkv dl := by
          rw [edl]
          unfold dkv
          rw [List.map_map]
          rfl
        have l8 : L.length ≤ 8 := okL.few
        refine ⟨_, rfl, ?_⟩
        refine rdS_list (key := fun x => x) (val := fun x => .str (kof L x)) (xs := ascOf (keysD L)) (fun _ H' => L2.Same H8 H') (by rw [(ascOf_perm _).length_eq, keysD_len]; omega) ?_ ?_ ?_
        · intro R hR
          refine ⟨_, rfl, dl0, _, keysD L, rfl, .inl hd8, dkv_keys L, by rw [keysD_len]; omega, fun ys t pm so ht => ?_⟩
          have ey : ys = ascOf (keysD L) := (sortedS_asc so (pm.nodup_iff.mpr nas)).eq asc2 (pm.trans (ascOf_perm _).symm)
          subst ey
          exact hR t _ upd_same (Same.new ht)
        · intro l x H9 H10 R hx s9 s10 kR
          have mx : x ∈ keysD L := (ascOf_perm _).mem_iff.mp hx
          have dg := DGet.k (k := Sum.inr x) (s10 _ _ (s9 _ _ hd8))
          rw [valV_dkv nas mx] at dg
          refine at_name (σ' := [some (.ref p), some (.int (mo : Nat)), some (.ref td), some (.ref kl), some (.ref wl), some (.ref dl0), some (.ref tl), some (.str x), none, none]) rfl ⟨rfl, ?_⟩
          exact ⟨_, rfl, _, rfl, _, rfl, dl0, _, rfl, dg, (by show 2 ≤ sizeLine; decide), fun t ht => kR t _ (Same.new ht) upd_same⟩
        · intro dd l H9 H10 s9 s10 hdd0 hdd
          rw [mergeK_strs asc2.nodup, dkl] at hdd
          refine ⟨_, rfl, (by show 3 ≤ sizeLine; decide), fun s2 hs2 => ?_⟩
          have s11 := Same.new (H := H10) (o := .lst [.ref td, .ref dd, .ref tl]) hs2
          have s811 := s9.trans (s10.trans s11)
          exact k s2 td dd tl ws f dl tw _ (((b06.same s7).trans bt8).same s811) ((hP8.mono s811).le (by omega)) ⟨upd_same, s811 _ _ ht8, s11 _ _ hdd, s811 _ _ htl8, kw, okL.perm pdl, by rw [kdl]; exact asc2, ⟨List.Pairwise.sublist sub asq, fun x hx => sub.subset hx⟩⟩
end
end KT
set_option Elab.async false
set_option linter.all false
set_option maxRecDepth 100000
set_option maxHeartbeats 4000000
set_option pp.maxSteps 900
namespace KT
open PySem L2 PyProof.Rows DTp TxS
/-- what a heap may become -/
structure RelOk (Rel : Hp → Hp → Prop) : Prop where
  refl : ∀ H, Rel H H
  trans : ∀ {H1 H2 H3}, Rel H1 H2 → Rel H2 H3 → Rel H1 H3
  upd : ∀ {H1 H : Hp} {D : Addr} {o : HO}, H1 D = none → Rel H1 H → Rel H1 (upd H D o)
theorem rel_same : RelOk L2.Same where
  refl := fun H _ _ e => e
  trans := fun s t => Same.trans s t
  upd := fun hD s c o e => by rw [upd_ne (ne_of_none e hD)]; exact s _ _ e
def YI {ι : Type} (xs : List ι) (ev : ι → V) : Nat → Hp → V → Hp → Prop := fun i H v H' => H' = H ∧ ∃ x, xs[i]? = some x ∧ v = ev x
theorem walk_LI {ι : Type} {K : PySem.W.Frag} {a : Addr} (xs : List ι) (ev : ι → V) : Walk (Itl K a) xs.length (fun H => SqL K H a (xs.map ev)) (YI xs ev) := by
  have w := walk_list (K := K) (a := a) (xs := xs.map ev)
  rw [List.length_map] at w
  refine w.mono (fun _ h => h) fun i H x H' hi _ h => ⟨h.1, ?_⟩
  have h2 : (xs.map ev)[i]? = some x := h.2
  rw [List.getElem?_map] at h2
  cases e : xs[i]? with
  | none => rw [e] at h2; cases h2
  | some y => rw [e] at h2; exact ⟨y, rfl, (Option.some.inj h2).symm⟩
theorem walk_TI {ι : Type} {K : PySem.W.Frag} {a : Addr} (xs : List ι) (ev : ι → V) : Walk (Itt K a) xs.length (fun H => SqT K H a (xs.map ev)) (YI xs ev) := by
  have w := walk_tup (K := K) (a := a) (xs := xs.map ev)
  rw [List.length_map] at w
  refine w.mono (fun _ h => h) fun i H x H' hi _ h => ⟨h.1, ?_⟩
  have h2 : (xs.map ev)[i]? = some x := h.2
  rw [List.getElem?_map] at h2
  cases e : xs[i]? with
  | none => rw [e] at h2; cases h2
  | some y => rw [e] at h2; exact ⟨y, rfl, (Option.some.inj h2).symm⟩
section
variable {J : It} {n : Nat} {G : Hp → Prop} {ι : Type}
/-- [a value, or a new object, for item in .. if ..] -/
theorem lcQ {xs : List ι} {ev : ι → V} {Rel : Hp → Hp → Prop} (W : Walk J xs.length G (YI xs ev)) (R : RelOk Rel) (p : ι → Bool) (Inv : Nat → Hp → Prop) (F : Hp → ι → V → Prop) {tt : TT} {te : TE} {g : TG} {vs : List Nat} {σ : L2.St} {H1 : Hp} {D : Addr} {Qd : Hp → Prop}
    (few : xs.length ≤ 1000) (hD : H1 D = none) (kp : ∀ {H H' : Hp} {o : HO}, Rel H H' → H D = some o → H' D = some o) (fm : ∀ {H H' : Hp} {x : ι} {v : V}, Rel H H' → F H x v → F H' x v) (fu : ∀ {H : Hp} {x : ι} {v : V} {o : HO}, F H x v → F (upd H D o) x v) (iu : ∀ {i : Nat} {H : Hp} {o : HO}, Inv i H → Inv i (upd H D o)) (i0 : Inv 0 H1) (stay : ∀ H', Rel H1 H' → G H')
    (step : ∀ (i : Nat) (x : ι) (H2 : Hp) (Y : VK) (N : Hp → Prop), xs[i]? = some x → Rel H1 H2 → Inv i H2 → (∃ o, H2 D = some o) → (p x = true → ∀ v H3, Rel H2 H3 → Inv (i + 1) H3 → F H3 x v → Y v H3) → (p x = false → ∀ H3, Rel H2 H3 → Inv (i + 1) H3 → N H3) →
      g (ev x) (wipe σ vs) H2 fun σ2 H3 => wipe σ2 vs = wipe σ vs ∧ tt σ2 H3 fun b H4 => if b = true then te σ2 H4 Y else N H4)
    (k : ∀ (L : List (ι × V)) (H' : Hp), Rel H1 H' → Inv xs.length H' → L.map (·.1) = xs.filter p → H' D = some (.lst (L.map (·.2))) → (∀ q ∈ L, F H' q.1 q.2) → Qd H') :
    ∃ W : Nat → Nat → Hp → Prop, (∃ m, W 0 m (upd H1 D (.lst []))) ∧ ∀ i m H, W i m H →
      (J.stop i H ∧ Qd H) ∨ (J.go i H ∧ ∃ Nx : Hp → Prop, (∀ H', Nx H' → ∃ m', m' < m ∧ W (i + 1) m' H') ∧ ∀ x H', J.yld i H x H' → g x (wipe σ vs) H' fun σ2 H2 => wipe σ2 vs = wipe σ vs ∧ tt σ2 H2 fun b H3 =>
        if b = true then te σ2 H3 fun y H4 => ∃ acc, H4 D = some (.lst acc) ∧ acc.length < sizeLine ∧ Nx (upd H4 D (.lst (acc ++ [y]))) else Nx H3) := by
  refine lc_it W (fun i H' => Rel H1 H' ∧ Inv i H' ∧ ∃ L : List (ι × V), L.map (·.1) = (xs.take i).filter p ∧ H' D = some (.lst (L.map (·.2))) ∧ ∀ q ∈ L, F H' q.1 q.2) ⟨R.upd hD (R.refl _), iu i0, [], rfl, upd_same, fun q h => by cases h⟩ (fun i H' _ h => stay H' h.1) (fun i x0 H0 H2 hi h y => ?_) (fun H' h => ?_)
  · obtain ⟨s2, iv, L, eL, hD2, fa⟩ := h
    obtain ⟨rfl, x, ex, rfl⟩ := y
    have lL : L.length ≤ 1000 := by
      have := congrArg List.length eL
      rw [List.length_map] at this
      rw [this]
      exact Nat.le_trans (List.length_filter_le _ _) (by rw [List.length_take]; omega)
    refine step i x H2 _ _ ex s2 iv ⟨_, hD2⟩ (fun e v H3 s3 iv3 hF => ?_) (fun e H3 s3 iv3 => ?_)
    · refine ⟨_, kp s3 hD2, by rw [List.length_map]; exact small1000 lL, R.upd hD (R.trans s2 s3), iu iv3, L ++ [(x, v)], ?_, by rw [upd_same, List.map_append]; rfl, fun q hq => ?_⟩
      · rw [List.map_append, eL, take_next' ex, List.filter_append, List.filter_cons_of_pos (p := p) (by exact e)]; rfl
      · rcases List.mem_append.mp hq with hq | hq
        · exact fu (fm s3 (fa q hq))
        · rw [List.mem_singleton.mp hq]
          exact fu hF
    · refine ⟨R.trans s2 s3, iv3, L, ?_, kp s3 hD2, fun q hq => fm s3 (fa q hq)⟩
      rw [eL, take_next' ex, List.filter_append, List.filter_cons_of_neg (p := p) (by rw [e]; exact Bool.false_ne_true)]
      rw [List.filter_nil, List.append_nil]
  · obtain ⟨s2, iv, L, eL, hD2, fa⟩ := h
    rw [List.take_length] at eL
    exact k L H' s2 iv eL hD2 fa
/-- [a value for item in .. if ..] -/
theorem lcV {xs : List ι} {ev : ι → V} (W : Walk J xs.length G (YI xs ev)) (p : ι → Bool) (ov : ι → V) {tt : TT} {te : TE} {g : TG} {vs : List Nat} {σ : L2.St} {H1 : Hp} {D : Addr} {Qd : Hp → Prop} (few : xs.length ≤ 1000) (hD : H1 D = none) (stay : ∀ H', L2.Same H1 H' → G H')
    (step : ∀ (i : Nat) (x : ι) (H2 : Hp) (Y : VK) (N : Hp → Prop), xs[i]? = some x → L2.Same H1 H2 → (p x = true → ∀ H3, L2.Same H2 H3 → Y (ov x) H3) → (p x = false → ∀ H3, L2.Same H2 H3 → N H3) →
      g (ev x) (wipe σ vs) H2 fun σ2 H3 => wipe σ2 vs = wipe σ vs ∧ tt σ2 H3 fun b H4 => if b = true then te σ2 H4 Y else N H4)
    (k : ∀ H' : Hp, L2.Same H1 H' → H' D = some (.lst ((xs.filter p).map ov)) → Qd H') :
    ∃ W : Nat → Nat → Hp → Prop, (∃ m, W 0 m (upd H1 D (.lst []))) ∧ ∀ i m H, W i m H →
      (J.stop i H ∧ Qd H) ∨ (J.go i H ∧ ∃ Nx : Hp → Prop, (∀ H', Nx H' → ∃ m', m' < m ∧ W (i + 1) m' H') ∧ ∀ x H', J.yld i H x H' → g x (wipe σ vs) H' fun σ2 H2 => wipe σ2 vs = wipe σ vs ∧ tt σ2 H2 fun b H3 =>
        if b = true then te σ2 H3 fun y H4 => ∃ acc, H4 D = some (.lst acc) ∧ acc.length < sizeLine ∧ Nx (upd H4 D (.lst (acc ++ [y]))) else Nx H3) :=
  lcQ W rel_same p (fun _ _ => True) (fun _ x v => v = ov x) few hD (fun s e => s _ _ e) (fun _ e => e) (fun e => e) (fun h => h) trivial stay
    (fun i x H2 Y N ex s _ _ kY kN => step i x H2 Y N ex s (fun e H3 s3 => kY e _ H3 s3 trivial rfl) (fun e H3 s3 => kN e H3 s3 trivial))
    (fun L H' s _ eL hD' fa => k H' s (by
      rw [hD', ← eL, List.map_map]
      exact congrArg (fun z => some (HO.lst z)) (List.map_congr_left fun q hq => fa q hq)))
end
end KT
set_option Elab.async false
set_option linter.all false
set_option maxRecDepth 100000
set_option maxHeartbeats 2000000
namespace DKq
open PySem PySem.Spec PyProof.Rows L2
def hitK (ls : List (Key × V)) (p : Key × V) : Bool := match valV ls p.1 with
  | some v => eqV p.2 v
  | none => false
def sameK (ks ls : List (Key × V)) : Bool := ks.length == ls.length && ks.all (hitK ls)
def FlV (kvs : List (Key × V)) : Prop := ∀ p ∈ kvs, flatV p.2 = true
theorem FlV.val {ls : List (Key × V)} (h : FlV ls) {k : Key} {v : V} (e : valV ls k = some v) : flatV v = true := by
  unfold valV at e
  obtain ⟨p, h1, rfl⟩ := Option.map_eq_some_iff.mp e
  exact h p (List.mem_of_find?_eq_some h1)
theorem hits_any {A : Around} {s : Shared} {ls : List (Key × V)} {vb : List (Key × Value)} (rb : KV ls vb) (fl : FlV ls) {ks : List (Key × V)} {va : List (Key × Value)} (ra : KV ks va) :
    FlV ks → PySem.W.KeqHits A s vb va (ks.all (hitK ls)) := by
  unfold KV at ra
  induction ra with
  | nil => intro _; exact .nil
  | @cons p q ps qs h t ih =>
    intro hp
    obtain ⟨h1, h2⟩ := h
    obtain ⟨k, v⟩ := q
    have h1 : p.1 = k := h1
    have rr : RelO (valV ls p.1) (valueAt vb p.1) := rb.val p.1
    rw [List.all_cons]
    unfold hitK
    cases e : valV ls p.1 with
    | none =>
      rw [e] at rr
      cases e2 : valueAt vb p.1 with
      | none =>
        rw [h1] at e2
        exact .miss e2
      | some y => rw [e2] at rr; exact rr.elim
    | some x =>
      rw [e] at rr
      cases e2 : valueAt vb p.1 with
      | none => rw [e2] at rr; exact rr.elim
      | some y =>
        rw [e2] at rr
        rw [h1] at e2
        exact .hit e2 (eqAt_V h2 rr (hp p List.mem_cons_self) (fl.val e)) (ih fun p' hm => hp p' (List.mem_cons_of_mem _ hm))
def rEqK (neg : Bool) : R2 := fun x y H Q => ∃ a b ks ls, x = .ref a ∧ y = .ref b ∧ H a = some (.dK ks) ∧ H b = some (.dK ls) ∧ FlV ks ∧ FlV ls ∧ Q (.bl (if neg = true then !sameK ks ls else sameK ks ls)) H
section
variable {X : Cx}
theorem op_eqK (hu : X.A.units < cLine) : OpR X (compareOp .Eq) (rEqK false) := by
  intro pins s σ H x y v u Q I rx ry h
  obtain ⟨a, b, ks, ls, rfl, rfl, ea, eb, fk, fl, q⟩ := h
  obtain rfl : v = Value.ref a := rx
  obtain rfl : u = Value.ref b := ry
  obtain ⟨_, ya, va, ra, da⟩ := (show ObjOk X.prog X.w H s.heap a (.dK ks) from I.hok a _ ea)
  obtain ⟨_, yb, vb, rb, db⟩ := (show ObjOk X.prog X.w H s.heap b (.dK ls) from I.hok b _ eb)
  refine PySem.W.keq_eq (knd := mixKind X.prog X.w) (r := ks.all (hitK ls)) ya yb da db hu (fun _ => hits_any rb fl ra fk) (fin_bl I q ?_)
  rw [if_neg (by decide)]
  unfold sameK
  rw [ra.length, rb.length]
end
end DKq
set_option Elab.async false
set_option linter.all false
set_option maxRecDepth 100000
set_option maxHeartbeats 4000000
set_option pp.maxSteps 900
namespace KT
open PySem L2 PyProof.Rows DTp TxS DKq
theorem fl_dkv (dl : List (Str × Str)) : FlV (dkv dl) := fun p hp => by
  obtain ⟨q, _, rfl⟩ := List.mem_map.mp hp
  rfl
section
variable {P : Program} {w : World} {K : PySem.W.Frag} {mg : Str → Option Value} {base : Heap} {C S : Addr}
def sameS (ws : List Str) (f : Str → Str → Str) (dl : List (Str × Str)) (tw ws2 : List Str) (f2 : Str → Str → Str) (d2 : List (Str × Str)) (tw2 : List Str) : Bool := sameT (tabW ws f) (tabW ws2 f2) && (sameK (dkv dl) (dkv d2) && decide (tw = tw2))
def spSEqA (K : PySem.W.Frag) (S C : Addr) : Sp := fun vs H Q _ => ∃ (A : SA) (y : V) (ws : List Str) (f : Str → Str → Str) (dl : List (Str × Str)) (tw : List Str), vs = [.ref A.q, y] ∧ StIn S C H A ws f dl tw ∧
  ((∃ (B : SA) (ws2 : List Str) (f2 : Str → Str → Str) (d2 : List (Str × Str)) (tw2 : List Str), y = .ref B.q ∧ StIn S C H B ws2 f2 d2 tw2 ∧ Q (.bl (sameS ws f dl tw ws2 f2 d2 tw2)) H) ∨ ∃ t, TyX K H y t ∧ PySem.W.kitOne K t (.ref S) = some false ∧ Q (.bl false) H)
theorem ok_seqA {g : Addr} {fd : FuncData} (F : Fun K "__eq__" "Setting.__eq__" sEq g fd) (TS : STx K mg S) (T : KTx K mg C) (Z : Blp mg) (D : OwQ.EqC P w K mg base 1 C (spKEq K C)) (hn : PySem.W.notFirst K C (.ref C) = true) : FnOk P w K mg base CX0 2 g fd ["self", "other"] (spSEqA K S C) := by
  refine F.ok scSEq (fun vs H Q E h => ?_) (fun cdv A outer s H vs Q E hr h => ?_)
  · obtain ⟨A, y, ws, f, dl, tw, rfl, _⟩ := h
    rfl
  · obtain ⟨A0, y, ws, f, dl, tw, rfl, st, h⟩ := h
    refine ⟨_, pss_one (ps_ret (pe_and (pe_callB call_isi (by rfl) Z.isi boot_isi (pa_cons (pv 1) (pa_cons (pe_glob (v := .ref S) rfl TS.mgS rfl) pa_nil)))
      (pe_and (pe_cmpR (OwQ.op_eqOwn D (hr.mono (by decide))) (pe_fld (pv 0) rfl) (pe_fld (pv 1) rfl) (nomark _))
      (pe_and (pe_cmpR (op_eqK hr.units0) (pe_fld (pv 0) rfl) (pe_fld (pv 1) rfl) (nomark _))
      (pe_one (pe_cmpR (op_eqD hr.units) (pe_fld (pv 0) rfl) (pe_fld (pv 1) rfl) (nomark _))))))), ?_⟩
    rcases h with ⟨B0, ws2, f2, d2, tw2, rfl, su, k⟩ | ⟨t, ty, kt, k⟩
    · refine ⟨_, rfl, _, _, _, _, true, rfl, .own _, TS.ty su.ob, TS.own, _, rfl, iteT ?_⟩
      refine ⟨_, rfl, _, S, _, _, _, rfl, st.ob, TS.cl, TS.nK, sflds_k _ _ _, _, rfl, _, S, _, _, _, rfl, su.ob, TS.cl, TS.nK, sflds_k _ _ _, ?_⟩
      refine ⟨_, _, _, _, rfl, st.kin.ob, T.ty su.kin.ob, hn, A0.p, .ref B0.p, ws, f, rfl, st.kdAt, .inl ⟨B0.p, ws2, f2, rfl, su.kdAt, ?_⟩⟩
      refine ⟨_, rfl, _, rfl, ?_⟩
      rw [if_neg Bool.false_ne_true]
      unfold sameS at k
      refine ite2 (fun e1 => ?_) (fun e1 => ?_)
      · rw [e1, Bool.true_and] at k
        refine ⟨_, rfl, _, S, _, _, _, rfl, st.ob, TS.cl, TS.nD, sflds_d _ _ _, _, rfl, _, S, _, _, _, rfl, su.ob, TS.cl, TS.nD, sflds_d _ _ _, ?_⟩
        refine ⟨_, _, _, _, rfl, rfl, st.dc, su.dc, fl_dkv _, fl_dkv _, _, rfl, ?_⟩
        rw [if_neg Bool.false_ne_true]
        refine ite2 (fun e2 => ?_) (fun e2 => ?_)
        · rw [e2, Bool.true_and] at k
          refine ⟨_, rfl, _, S, _, _, _, rfl, st.ob, TS.cl, TS.nT, sflds_t _ _ _, _, rfl, _, S, _, _, _, rfl, su.ob, TS.cl, TS.nT, sflds_t _ _ _, ?_⟩
          have wt : ∀ {t v : List Str} {g : Str → Str → Str}, KW v g → TwOk v g t → ∀ x ∈ t, Wd x := fun kw h x hx => kw.wd x (List.mem_filter.mp (h.sq x hx)).1
          refine ⟨_, _, dp_strs (SqL.of st.ls), dp_strs (SqL.of su.ls), shaped_strs _ (wt st.kin.kw st.tok), shaped_strs _ (wt su.kin.kw su.tok), ?_⟩
          rw [eqv_strs]
          exact k
        · have e2' : sameK (dkv dl) (dkv d2) = false := by simpa using e2
          rw [e2', Bool.false_and] at k
          exact k
      · have e1' : sameT (tabW ws f) (tabW ws2 f2) = false := by simpa using e1
        rw [e1', Bool.false_and] at k
        exact k
    · exact ⟨_, rfl, _, _, _, _, false, rfl, .own _, ty, kt, _, rfl, iteF k⟩
end
end KT
set_option Elab.async false
set_option linter.all false
set_option maxRecDepth 100000
set_option maxHeartbeats 4000000
set_option pp.maxSteps 900
namespace KT
open PySem L2 PyProof.Rows DTp TxS
theorem alike_strs {H : Hp} {a b : Addr} {L : List Str} (n : Nat) (ha : H a = some (.lst (L.map V.str))) (hb : H b = some (.lst (L.map V.str))) (few : L.length ≤ 100) : Alike (n + 2) H (.ref a) (.ref b) := by
  refine .inr (.inl ⟨a, b, _, _, rfl, rfl, ha, hb, by rw [List.length_map]; exact few, paired_of rfl fun i x y hx hy => ?_⟩)
  rw [hx] at hy
  obtain rfl := Option.some.inj hy
  obtain ⟨z, _, rfl⟩ := str_get hx
  exact .inl (.inl ⟨z, rfl, rfl⟩)
end KT
set_option Elab.async false
set_option linter.all false
set_option maxRecDepth 100000
set_option maxHeartbeats 4000000
set_option pp.maxSteps 900
namespace KT
open PySem L2 PyProof.Rows DTp TxS DKq
theorem mergeK_dkv {L : List (Str × Str)} (n : (keysD L).Nodup) : mergeK [] (dkv L) = dkv L := by
  rw [mergeK_nd _ _ (by
    rw [List.nil_append, dkv_keys]
    exact inr_nodup n), List.nil_append]
/-- a value read, what it is said of it alone -/
def tCutE (te : TE) : TE := fun σ H Q => ∃ Mid : V → Hp → Prop, te σ H Mid ∧ ∀ v H', Mid v H' → Q v H'
theorem pe_cutE {X : Cx} {e : Expr} {t : TE} (he : PE X e t) : PE X e (tCutE t) := ⟨fun pins s σ H Q I h => by
  obtain ⟨Mid, h1, h2⟩ := h
  exact wpAny_mono (he.run pins s σ H _ I h1) (fun v s' ⟨x, H', I', r, q⟩ => ⟨x, H', I', r, h2 _ _ q⟩) fun _ _ e => e⟩
theorem KdIn.mono {C : Addr} {H H' : Hp} {z dx d l : Addr} {ws : List Str} {f : Str → Str → Str} (s : L2.Same H H') (h : KdIn C H z dx d l ws f) : KdIn C H' z dx d l ws f := ⟨s _ _ h.ob, s _ _ h.dc, s _ _ h.ls, h.kw⟩
/-- others than the Setting of these -/
def OthS (K : PySem.W.Frag) (S C : Addr) (ws : List Str) (f : Str → Str → Str) (dl : List (Str × Str)) (tw : List Str) (H : Hp) (x : V) : Prop :=
  (∃ (B : SA) (ws2 : List Str) (f2 : Str → Str → Str) (d2 : List (Str × Str)) (tw2 : List Str), x = .ref B.q ∧ StIn S C H B ws2 f2 d2 tw2 ∧ sameS ws f dl tw ws2 f2 d2 tw2 = false) ∨ ∃ t ∈ [Value.type "NoneType", .type "int", .type "dict", .type "list", .type "tuple", .ref C], TyX K H x t
section
variable {K : PySem.W.Frag} {S C : Addr} {ws : List Str} {f : Str → Str → Str} {dl : List (Str × Str)} {tw : List Str}
theorem OthS.mono {H H' : Hp} {x : V} (s : L2.Same H H') (h : OthS K S C ws f dl tw H x) : OthS K S C ws f dl tw H' x := by
  rcases h with ⟨B, ws2, f2, d2, tw2, e, st, n⟩ | ⟨t, m, ty⟩
  · exact .inl ⟨B, ws2, f2, d2, tw2, e, st.mono s, n⟩
  · exact .inr ⟨t, m, tyX_mono s ty⟩
end
end KT
set_option Elab.async false
set_option linter.all false
set_option maxRecDepth 100000
set_option maxHeartbeats 4000000
namespace KT
open PySem L2 PyProof.Rows DTp TxS DKq
def revG {α : Type} : List α → List α → List α := fun _ zs => zs.reverse
theorem revG_rel {vs : List V} {us : List Value} {zs : List V} {ws : List Value} (_ : Vals vs us) (r : Vals zs ws) : Vals (revG vs zs) (revG us ws) := paired_rev r
section
variable {ws : List Str} {f : Str → Str → Str}
/-- the kind of the stretch of two points -/
def btw (f : Str → Str → Str) (ks : List Str) (p : Ix) : Str := lp f ((ks.take p.2).drop p.1)
theorem btw_mem (kw : KW ws f) {ks : List Str} (h : ∀ z ∈ ks, z ∈ ws) {i j : Nat} (hij : i < j) (hj : j ≤ ks.length) : btw f ks (i, j) ∈ ws := by
  refine lp_mem kw (fun z hz => h z (List.mem_of_mem_take (List.mem_of_mem_drop hz))) fun e => ?_
  have := congrArg List.length e
  rw [List.length_drop, List.length_take, List.length_nil] at this
  omega
theorem kds_cut (dl : List (Str × Str)) (row : List Str) (i j : Nat) : kds dl ((row.take j).drop i) = ((kds dl row).take j).drop i := by
  unfold kds
  rw [List.map_drop, List.map_take]
end
end KT
set_option Elab.async false
set_option linter.all false
set_option maxRecDepth 100000
set_option maxHeartbeats 4000000
set_option pp.maxSteps 900
namespace KT
open PySem L2 PyProof.Rows DTp TxS
section
variable {P : Program} {w : World} {K : PySem.W.Frag} {mg : Str → Option Value} {base : Heap} {C S : Addr}
theorem cut_mid (xs : List V) (i j : Nat) (h : i ≤ j) (h2 : j ≤ xs.length) : cutV xs (some (i : Int)) (some (j : Int)) = (xs.take j).drop i := by
  unfold cutV
  have e1 : HT.sIx xs.length 0 (some (i : Int)) = i := by
    rw [HT.sIx_nat]; omega
  have e2 : HT.sIx xs.length xs.length (some (j : Int)) = j := by
    rw [HT.sIx_nat]; omega
  rw [e1, e2, List.drop_take]
end
end KT
set_option Elab.async false
set_option linter.all false
set_option maxRecDepth 100000
set_option maxHeartbeats 2000000
set_option pp.maxSteps 900
namespace KT
open PySem L2 PyProof.Rows DTp TxS
/-- the log whose stretch from a to b is said again -/
def dbAt (row : List Str) (a b : Nat) : List Str := row.take b ++ (row.take b).drop a ++ row.drop b
def hvAt (row : List Str) (a n : Nat) : List Str := row.take a ++ row.drop (a + n)
def Dbl (f : Str → Str → Str) (tw ks : List Str) (row x : List Str) : Prop := ∃ a b, a < b ∧ b ≤ row.length ∧ btw f ks (a, b) ∈ tw ∧ x = dbAt row a b
def Hlv (f : Str → Str → Str) (tw ks : List Str) (row x : List Str) : Prop := ∃ a n, 0 < n ∧ a + 2 * n ≤ row.length ∧ (row.take (a + n)).drop a = (row.take (a + 2 * n)).drop (a + n) ∧ btw f ks (a, a + n) ∈ tw ∧ x = hvAt row a n
/-- a list of lists of texts -/
structure TLs (H : Hp) (l : Addr) (zs : List (Addr × List Str)) : Prop where
  at' : H l = some (.lst (zs.map fun z => V.ref z.1))
  all : ∀ z ∈ zs, H z.1 = some (.lst (z.2.map V.str))
theorem TLs.mono {H H' : Hp} {l : Addr} {zs : List (Addr × List Str)} (h : TLs H l zs) (s : L2.Same H H') : TLs H' l zs := ⟨s _ _ h.at', fun z hz => s _ _ (h.all z hz)⟩
/-- rows as keys -/
def kvU (ks : List (List Str)) : List (List Key × V) := ks.map fun x => (keyT x, V.bl true)
theorem kvU_keys (ks : List (List Str)) : (kvU ks).map (·.1) = ks.map keyT := by unfold kvU; rw [List.map_map]; rfl
theorem keyT_inj : ∀ {a b : List Str}, keyT a = keyT b → a = b
  | [], [], _ => rfl
  | [], _ :: _, h => by cases h
  | _ :: _, [], h => by cases h
  | x :: a, y :: b, h => by
    have h : (Sum.inr x : Key) :: keyT a = Sum.inr y :: keyT b := h
    injection h with h1 h2
    rw [Sum.inr.inj h1, keyT_inj h2]
theorem kvU_mem {ks : List (List Str)} {x : List Str} : keyT x ∈ (kvU ks).map (·.1) ↔ x ∈ ks := by
  rw [kvU_keys, List.mem_map]
  exact ⟨fun ⟨y, hy, e⟩ => keyT_inj e ▸ hy, fun h => ⟨x, h, rfl⟩⟩
theorem kvU_put {ks : List (List Str)} (n : ks.Nodup) (x : List Str) : ∃ ks2 : List (List Str), putK (kvU ks) (keyT x) (.bl true) = kvU ks2 ∧ ks2.Nodup ∧ (∀ y, y ∈ ks2 ↔ y ∈ ks ∨ y = x) ∧ ks2.length ≤ ks.length + 1 := by
  by_cases c : x ∈ ks
  · refine ⟨ks, ?_, n, fun y => ⟨.inl, fun h => h.elim id fun e => e ▸ c⟩, by omega⟩
    unfold putK
    rw [if_pos (by rw [List.any_eq_true]; exact ⟨(keyT x, .bl true), List.mem_map.mpr ⟨x, c, rfl⟩, decide_eq_true rfl⟩)]
    unfold kvU
    rw [List.map_map]
    refine List.map_congr_left fun y hy => ?_
    show (if keyT y = keyT x then _ else _) = _
    split <;> rfl
  · refine ⟨ks ++ [x], ?_, List.nodup_append.mpr ⟨n, by simp, fun a ha b hb => by rw [List.mem_singleton.mp hb]; rintro rfl; exact c ha⟩, fun y => by rw [List.mem_append, List.mem_singleton], by rw [List.length_append]; simp⟩
    rw [KT.putK_new (fun h => c (kvU_mem.mp h))]
    unfold kvU
    rw [List.map_append]
    rfl
theorem tl_new {H0 H : Hp} {D : Addr} : ∀ {L : List ((Addr × List Str) × V)}, (∀ q ∈ L, ∃ a, q.2 = V.ref a ∧ a ≠ D ∧ H a = some (.lst (q.1.2.map V.str)) ∧ H0 a = none) → ∃ zs : List (Addr × List Str), L.map (·.2) = zs.map (fun z => V.ref z.1) ∧ zs.map (·.2) = L.map (fun q => q.1.2) ∧ (∀ z ∈ zs, H z.1 = some (.lst (z.2.map V.str))) ∧ ∀ z ∈ zs, H0 z.1 = none
  | [], _ => ⟨[], rfl, rfl, (fun z hz => by cases hz), fun z hz => by cases hz⟩
  | q :: L, h => by
    obtain ⟨a, e1, _, e3, e4⟩ := h q List.mem_cons_self
    obtain ⟨zs, z1, z2, z3, z4⟩ := tl_new (H0 := H0) (H := H) (D := D) (L := L) fun x hx => h x (List.mem_cons_of_mem _ hx)
    refine ⟨(a, q.1.2) :: zs, by rw [List.map_cons, List.map_cons, e1, z1], by rw [List.map_cons, List.map_cons, z2], fun z hz => ?_, fun z hz => ?_⟩
    · rcases List.mem_cons.mp hz with rfl | hz
      · exact e3
      · exact z3 z hz
    · rcases List.mem_cons.mp hz with rfl | hz
      · exact e4
      · exact z4 z hz
theorem srt_of {xs ks : List (List Str)} (pm : xs.Perm ks) (n : ks.Nodup) (so : xs.Pairwise fun x y => ¬ ltR y x) : xs.Pairwise ltR :=
  (List.Pairwise.and so (pm.nodup_iff.mpr n)).imp fun {a b} h => by
    rcases ltR_tri a b with c | c | c
    · exact c
    · exact absurd c h.2
    · exact absurd c h.1
theorem hu65' {k : Nat} {A : Around} (r : Room k A) : A.units + 64 < cLine := by have := r.un; omega
theorem hu65 {k : Nat} {A : Around} (r : Room k A) : A.units + 65 < cLine := by have := r.un; omega
theorem none_back {H H' : Hp} {a : Addr} (s : L2.Same H H') (h : H' a = none) : H a = none := by
  cases e : H a with
  | none => rfl
  | some o => rw [s _ _ e] at h; cases h
section
variable {P : Program} {w : World} {K : PySem.W.Frag} {mg : Str → Option Value} {base : Heap} {C S Y : Addr}
def spDb : Sp := fun vs H Q _ => ∃ (s td dd tl : Addr) (ws : List Str) (f : Str → Str → Str) (dl : List (Str × Str)) (tw : List Str) (r : Addr) (row : List Str), vs = [.ref s, .ref r] ∧ SetAt H s td dd tl ws f dl tw ∧ LogAt dl H r row ∧ row.length ≤ 30 ∧
  ∀ (q : Addr) (zs : List (Addr × List Str)) H', L2.Same H H' → H q = none → TLs H' q zs → (∀ z ∈ zs, H z.1 = none) → (zs.map (·.2)).Pairwise ltR → (∀ x, x ∈ zs.map (·.2) ↔ Dbl f tw (kds dl row) row x) → Q (.ref q) H'
abbrev nDb : List Str := ["_law_setting_here", "_law_log_here", "_law_found", "_law_first", "_law_last", "_law_row"]
theorem scDb : FnScope nDb ["_law_setting_here", "_law_log_here"] (defScope sDb) := ⟨rfl, rfl, rfl, by decide +kernel, rfl, by decide +kernel, by decide +kernel⟩
theorem ok_db {g : Addr} {fd : FuncData} (F : Fun K "_law_doublings" "_law_doublings" sDb g fd) (B0 : Blt mg) (Z : Blp mg) (M : Cee P w K mg base 2 "_law_may_twice" ["_law_setting_here", "_law_log_here"] spMay) : FnOk P w K mg base CX0 3 g fd ["_law_setting_here", "_law_log_here"] spDb := by
  refine F.ok scDb (fun vs H Q E h => ?_) (fun cdv A outer s H vs Q E hr h => ?_)
  · obtain ⟨s, td, dd, tl, ws, f, dl, tw, r, row, rfl, _⟩ := h
    rfl
  · obtain ⟨s0, td, dd, tl, ws, f, dl, tw, r, row, rfl, se, lg, l30, k⟩ := h
    have nd := scDb.nd
    refine ⟨_, pss_cons (ps_set (i := 2) nd rfl (Or.inl rfl) (pe_dnewT))
      (pss_cons (ps_for PassesOwn.never rfl (pi_range1 rfl B0.range (pa_cons (pe_callB call_len_seq (by rfl) B0.len PySem.boot_len (pa_cons (pv 1) (pa_nil))) (pa_nil))) (pg_name (i := 3) nd rfl (Or.inl rfl)) (pss_one (ps_for PassesOwn.never rfl (pi_range2 rfl B0.range (pa_cons (pe_op op_add (pv 3) (pe_int)) (pa_cons (pe_op op_add (pe_callB call_len_seq (by rfl) B0.len PySem.boot_len (pa_cons (pv 1) (pa_nil))) (pe_int)) (pa_nil)))) (pg_name (i := 4) nd rfl (Or.inl rfl)) (pss_one (ps_if (pt_val (pe_c M hr rfl (pa_cons (pv 0) (pa_cons (pe_slice sl_list (pv 1) (po_some (pv 3)) (po_some (pv 4))) (pa_nil))))) (pss_one (ps_dput (hu_of hr) (pv 2) (pe_callTy call_tuple_of (by rfl) Z.tuple (by decide +kernel) (pa_cons (pe_op op_cat (pe_op op_cat (pe_slice sl_list (pv 1) (po_none) (po_some (pv 4))) (pe_slice sl_list (pv 1) (po_some (pv 3)) (po_some (pv 4)))) (pe_slice sl_list (pv 1) (po_some (pv 4)) (po_none))) (pa_nil))) pe_bl rfl)) pss_nil)))))
      (pss_one (ps_ret (pe_lc (own := [("_law_row", 5)]) (g := gName 5) (tt := tYes) (te := tCB (Evl.rListS K) (tCons (tVar 5) tNil)) rfl nd (pi_list (pe_callB (cr_sortK rfl (hu65' hr)) (by rfl) Z.sorted (by decide +kernel) (pa_cons (pv 2) (pa_nil)))) (blkOk_by (own := [("_law_row", 5)]) (N := nDb) (sc := defScope sDb) (by decide +kernel)) (fun _ _ _ _ _ => pg_name (i := 5) nd rfl (Or.inl rfl)) (fun _ _ _ _ _ => pts_nil) (fun _ _ _ _ _ => pe_callTy call_list_of (by rfl) Z.list (by decide +kernel) (pa_cons (pv 5) (pa_nil))))))), ?_⟩
    have ll : ((row.map V.str).length : Nat) = row.length := List.length_map _
    have mem : ∀ x ∈ row, x ∈ keysD dl := lg.mem
    refine fun d d0 => ?_
    have s1 := Same.new (H := H) (o := .dT []) d0
    have hd1 : upd H d (.dT []) d = some (.dT (kvU [])) := upd_same
    generalize upd H d (.dT []) = H1 at s1 hd1 ⊢
    refine at_name (σ' := [some (.ref s0), some (.ref r), some (.ref d), none, none, none]) rfl ?_
    refine ⟨_, rfl, r, _, rfl, .inl (SqL.of (s1 _ _ lg.at')), ?_⟩
    rw [ll]
    refine ⟨_, rfl, by omega, by omega, ?_⟩
    refine for_range (lo := 0) (n := row.length) (fun i σ H' => ∃ (x3 x4 : Option V) (ks : List (List Str)), σ = [some (.ref s0), some (.ref r), some (.ref d), x3, x4, none] ∧ L2.Same H H' ∧ H' d = some (.dT (kvU ks)) ∧ ks.Nodup ∧ ks.length ≤ 31 * i ∧ ∀ x, x ∈ ks ↔ ∃ a b, a < i ∧ a < b ∧ b ≤ row.length ∧ btw f (kds dl row) (a, b) ∈ tw ∧ x = dbAt row a b) ?_ ?_ ?_
    · exact ⟨_, _, [], rfl, s1, hd1, .nil, by simp, fun x => by simp⟩
    · rintro i σ H2 hi ⟨x3, x4, ks, rfl, s2, hd2, nk, lk, mk⟩
      rw [show (0 : Int) + (i : Nat) = ((i : Nat) : Int) by omega]
      refine at_name (σ' := [some (.ref s0), some (.ref r), some (.ref d), some (.int (i : Nat)), x4, none]) rfl ?_
      refine ⟨_, rfl, _, _, rfl, rfl, _, rfl, r, _, rfl, .inl (SqL.of (s2 _ _ lg.at')), _, _, rfl, rfl, ((i : Nat) : Int) + 1, ((row.length : Nat) : Int) + 1, (by show ([V.int (((i : Nat) : Int) + 1), V.int ((((row.map V.str).length : Nat) : Int) + 1)] : List V) = _; rw [ll]), ⟨by omega, by omega, by omega, by omega⟩, ?_⟩
      have en : (((row.length : Nat) : Int) + 1 - (((i : Nat) : Int) + 1)).toNat = row.length - i := by omega
      rw [en]
      refine for_range (lo := ((i : Nat) : Int) + 1) (n := row.length - i) (fun j σ H' => ∃ (x4 : Option V) (ks : List (List Str)), σ = [some (.ref s0), some (.ref r), some (.ref d), some (.int (i : Nat)), x4, none] ∧ L2.Same H H' ∧ H' d = some (.dT (kvU ks)) ∧ ks.Nodup ∧ ks.length ≤ 31 * i + j ∧ ∀ x, x ∈ ks ↔ ∃ a b, (a < i ∨ (a = i ∧ b < i + 1 + j)) ∧ a < b ∧ b ≤ row.length ∧ btw f (kds dl row) (a, b) ∈ tw ∧ x = dbAt row a b) ?_ ?_ ?_
      · refine ⟨_, ks, rfl, s2, hd2, nk, by omega, fun x => (mk x).trans ⟨?_, ?_⟩⟩
        · rintro ⟨a, b, h, h2⟩
          exact ⟨a, b, .inl h, h2⟩
        · rintro ⟨a, b, h | ⟨h, h1⟩, h2, h3⟩
          · exact ⟨a, b, h, h2, h3⟩
          · omega
      · rintro j σ H3 hj ⟨x4, ks, rfl, s3, hd3, nk, lk, mk⟩
        rw [show ((i : Nat) : Int) + 1 + (j : Nat) = ((i + 1 + j : Nat) : Int) by omega]
        refine at_name (σ' := [some (.ref s0), some (.ref r), some (.ref d), some (.int (i : Nat)), some (.int (i + 1 + j : Nat)), none]) rfl ?_
        obtain ⟨b, eb⟩ : ∃ b, b = i + 1 + j := ⟨_, rfl⟩
        rw [← eb]
        have hib : i < b := by omega
        have hbn : b ≤ row.length := by omega
        refine ⟨_, rfl, _, rfl, _, rfl, _, rfl, _, rfl, _, rfl, r, _, rfl, SqL.of (s3 _ _ lg.at'), fun p p0 => ?_⟩
        rw [cut_mid _ _ _ (by omega) (by rw [ll]; omega), ← List.map_take, ← List.map_drop]
        have s4 := Same.new (H := H3) (o := .lst (((row.take b).drop i).map V.str)) p0
        have hp4 : upd H3 p (.lst (((row.take b).drop i).map V.str)) p = _ := upd_same
        generalize upd H3 p (.lst (((row.take b).drop i).map V.str)) = H4 at s4 hp4 ⊢
        have ne : (row.take b).drop i ≠ [] := fun e => by
          have := congrArg List.length e
          rw [List.length_drop, List.length_take, List.length_nil] at this
          omega
        have s04 := s3.trans s4
        refine ⟨s0, td, dd, tl, ws, f, dl, tw, p, _, rfl, se.mono s04, ⟨hp4, by rw [List.length_drop, List.length_take]; omega, fun x hx => mem x (List.mem_of_mem_take (List.mem_of_mem_drop hx))⟩, ne, fun H5 s5 => ?_⟩
        have s05 := s04.trans s5
        have ev : lp f (kds dl ((row.take b).drop i)) = btw f (kds dl row) (i, b) := by rw [kds_cut]; rfl
        rw [ev]
        have hd5 := s5 _ _ (s4 _ _ hd3)
        have none' : ¬ btw f (kds dl row) (i, b) ∈ tw → ∀ x, x ∈ ks ↔ ∃ a c, (a < i ∨ (a = i ∧ c < i + 1 + (j + 1))) ∧ a < c ∧ c ≤ row.length ∧ btw f (kds dl row) (a, c) ∈ tw ∧ x = dbAt row a c := fun no x => (mk x).trans ⟨fun ⟨a, c, h, h2⟩ => ⟨a, c, h.imp id fun q => ⟨q.1, by omega⟩, h2⟩, fun ⟨a, c, h, h2, h3, h4, h5⟩ => by
          rcases h with h | ⟨h, h1⟩
          · exact ⟨a, c, .inl h, h2, h3, h4, h5⟩
          · by_cases q : c = b
            · rw [h, q] at h4; exact absurd h4 no
            · exact ⟨a, c, .inr ⟨h, by omega⟩, h2, h3, h4, h5⟩⟩
        refine ⟨_, rfl, ite2 (fun h => ?_) (fun h => ?_)⟩
        · have h := of_decide_eq_true h
          have lg5 := lg.mono s05
          refine ⟨_, rfl, _, rfl, _, rfl, _, rfl, r, _, rfl, SqL.of lg5.at', fun p1 p10 => ?_⟩
          rw [cut_to _ _ (by rw [ll]; omega), ← List.map_take]
          have t1 := Same.new (H := H5) (o := .lst ((row.take b).map V.str)) p10
          have hp1 : upd H5 p1 (.lst ((row.take b).map V.str)) p1 = _ := upd_same
          generalize upd H5 p1 (.lst ((row.take b).map V.str)) = G1 at t1 hp1 ⊢
          refine ⟨_, rfl, _, rfl, _, rfl, _, rfl, _, rfl, r, _, rfl, SqL.of (t1 _ _ lg5.at'), fun p2 p20 => ?_⟩
          rw [cut_mid _ _ _ (by omega) (by rw [ll]; omega), ← List.map_take, ← List.map_drop]
          have t2 := Same.new (H := G1) (o := .lst (((row.take b).drop i).map V.str)) p20
          have hp2 : upd G1 p2 (.lst (((row.take b).drop i).map V.str)) p2 = _ := upd_same
          generalize upd G1 p2 (.lst (((row.take b).drop i).map V.str)) = G2 at t2 hp2 ⊢
          have l1 : ((row.take b).map V.str).length ≤ 30 := by rw [List.length_map, List.length_take]; omega
          have l2 : (((row.take b).drop i).map V.str).length ≤ 30 := by rw [List.length_map, List.length_drop, List.length_take]; omega
          refine ⟨p1, p2, _, _, rfl, rfl, t2 _ _ hp1, hp2, by rw [sizeLine_eq]; omega, fun p3 p30 => ?_⟩
          rw [← List.map_append]
          have t3 := Same.new (H := G2) (o := .lst ((row.take b ++ (row.take b).drop i).map V.str)) p30
          have hp3 : upd G2 p3 (.lst ((row.take b ++ (row.take b).drop i).map V.str)) p3 = _ := upd_same
          generalize upd G2 p3 (.lst ((row.take b ++ (row.take b).drop i).map V.str)) = G3 at t3 hp3 ⊢
          have t03 := t1.trans (t2.trans t3)
          refine ⟨_, rfl, _, rfl, _, rfl, r, _, rfl, SqL.of (t03 _ _ lg5.at'), fun p4 p40 => ?_⟩
          rw [cut_from _ _ (by rw [ll]; omega), ← List.map_drop]
          have t4 := Same.new (H := G3) (o := .lst ((row.drop b).map V.str)) p40
          have hp4' : upd G3 p4 (.lst ((row.drop b).map V.str)) p4 = _ := upd_same
          generalize upd G3 p4 (.lst ((row.drop b).map V.str)) = G4 at t4 hp4' ⊢
          have l3 : ((row.drop b).map V.str).length ≤ 30 := by rw [List.length_map, List.length_drop]; omega
          refine ⟨p3, p4, _, _, rfl, rfl, t4 _ _ hp3, hp4', by rw [List.map_append, List.length_append, sizeLine_eq]; omega, fun p5 p50 => ?_⟩
          rw [← List.map_append, show row.take b ++ (row.take b).drop i ++ row.drop b = dbAt row i b from rfl]
          have t5 := Same.new (H := G4) (o := .lst ((dbAt row i b).map V.str)) p50
          have hp5 : upd G4 p5 (.lst ((dbAt row i b).map V.str)) p5 = _ := upd_same
          generalize upd G4 p5 (.lst ((dbAt row i b).map V.str)) = G5 at t5 hp5 ⊢
          refine ⟨p5, _, rfl, .inl ⟨SqL.of hp5, fun p6 p60 => ?_⟩⟩
          have t6 := Same.new (H := G5) (o := .tup ((dbAt row i b).map V.str)) p60
          have hp6 : upd G5 p6 (.tup ((dbAt row i b).map V.str)) p6 = _ := upd_same
          generalize upd G5 p6 (.tup ((dbAt row i b).map V.str)) = G6 at t6 hp6 ⊢
          have t06 : L2.Same H5 G6 := t03.trans (t4.trans (t5.trans t6))
          obtain ⟨ks2, e2, n2, m2, l2'⟩ := kvU_put nk (dbAt row i b)
          refine ⟨d, _, rfl, DPut.t (k := keyT (dbAt row i b)) (t06 _ _ hd5) (by rw [keyT_v]; exact hp6) (by unfold kvU; rw [List.length_map, sizeLine_eq]; omega), ?_⟩
          rw [e2]
          refine ⟨_, ks2, rfl, fun c o e => (upd_ne (ne_of_none e d0)).trans (t06 _ _ (s05 _ _ e)), upd_same, n2, by omega, fun x => ?_⟩
          rw [m2, mk]
          constructor
          · rintro (⟨a, c, h1, h2⟩ | h1)
            · exact ⟨a, c, h1.imp id fun q => ⟨q.1, by omega⟩, h2⟩
            · exact ⟨i, b, .inr ⟨rfl, by omega⟩, hib, hbn, h, h1⟩
          · rintro ⟨a, c, h1, h2, h3, h4, h5⟩
            rcases h1 with h1 | ⟨h1, h6⟩
            · exact .inl ⟨a, c, .inl h1, h2, h3, h4, h5⟩
            · by_cases q : c = b
              · rw [h1, q] at h5; exact .inr h5
              · exact .inl ⟨a, c, .inr ⟨h1, by omega⟩, h2, h3, h4, h5⟩
        · have h : ¬ btw f (kds dl row) (i, b) ∈ tw := fun z => h (decide_eq_true z)
          exact ⟨_, ks, rfl, s05, hd5, nk, by omega, none' h⟩
      · rintro σ H3 ⟨x4, ks, rfl, s3, hd3, nk, lk, mk⟩
        refine ⟨_, _, ks, rfl, s3, hd3, nk, by omega, fun x => (mk x).trans ⟨?_, ?_⟩⟩
        · rintro ⟨a, b, h, h2⟩
          exact ⟨a, b, by omega, h2⟩
        · rintro ⟨a, b, h, h2, h3, h4⟩
          exact ⟨a, b, by omega, h2, h3, h4⟩
    · rintro σ H2 ⟨x3, x4, ks, rfl, s2, hd2, nk, lk, mk⟩
      refine ⟨_, rfl, d, kvU ks, ks, rfl, .inl hd2, kvU_keys ks, fun x hx => ?_, by omega, fun qs p pm so hq p0 => ?_⟩
      · obtain ⟨a, b, h1, h2, h3, h4, rfl⟩ := (mk x).mp hx
        intro e
        have := congrArg List.length e
        unfold dbAt at this
        rw [List.length_append, List.length_append, List.length_take, List.length_drop, List.length_nil] at this
        omega
      have t1 := Same.new (H := H2) (o := .lst (qs.map fun q => V.ref q.1)) p0
      have hp1 : upd H2 p (.lst (qs.map fun q => V.ref q.1)) p = _ := upd_same
      generalize upd H2 p (.lst (qs.map fun q => V.ref q.1)) = G1 at t1 hp1 ⊢
      have lq : qs.length = ks.length := by have := pm.length_eq; rw [List.length_map] at this; exact this
      refine ⟨p, rfl, ⟨_, SqL.of hp1⟩, fun D hD => ?_⟩
      refine lcQ (walk_LI qs fun q => V.ref q.1) rel_same (fun _ => true) (fun _ _ => True) (fun H' q v => ∃ a, v = .ref a ∧ a ≠ D ∧ H' a = some (.lst (q.2.map V.str)) ∧ H a = none) (by omega) hD (fun s e => s _ _ e)
        (fun s ⟨a, e1, e2, e3, e4⟩ => ⟨a, e1, e2, s _ _ e3, e4⟩) (fun ⟨a, e1, e2, e3, e4⟩ => ⟨a, e1, e2, (upd_ne e2).trans e3, e4⟩) (fun h => h) trivial (fun H' s => SqL.of (s _ _ hp1)) (fun j z H4 Y N ej s4 _ hDo kY kN => ?_) (fun Lz H4 s4 _ eLz hD4 fz => ?_)
      · refine at_name (σ' := [some (.ref s0), some (.ref r), some (.ref d), x3, x4, some (.ref z.1)]) rfl ⟨rfl, yes_if ?_⟩
        have hz := s4 _ _ (t1 _ _ (hq z (List.mem_of_getElem? ej)))
        refine ⟨_, rfl, z.1, _, rfl, .inr (SqT.of hz), fun a a0 => kY rfl _ _ (Same.new a0) trivial ⟨a, rfl, fun e => ?_, upd_same, none_back (s2.trans (t1.trans s4)) a0⟩⟩
        obtain ⟨o, ho⟩ := hDo
        rw [e, ho] at a0; cases a0
      · obtain ⟨zs, z1, z2, z3, z4⟩ := tl_new fz
        have z2 : zs.map (·.2) = qs.map (·.2) := by
          rw [z2]
          have : Lz.map (fun q => q.1.2) = (Lz.map (·.1)).map (·.2) := by rw [List.map_map]; rfl
          rw [this, eLz, List.filter_eq_self.mpr fun _ _ => rfl]
        rw [z1] at hD4
        refine k D zs H4 (s2.trans (t1.trans s4)) (none_back (s2.trans t1) hD) ⟨hD4, z3⟩ z4 (by rw [z2]; exact srt_of pm nk so) fun x => ?_
        rw [z2, pm.mem_iff, mk]
        exact ⟨fun ⟨a, b, h1, h2⟩ => ⟨a, b, h2⟩, fun ⟨a, b, h1, h2, h3⟩ => ⟨a, b, by omega, h1, h2, h3⟩⟩
def spHv : Sp := fun vs H Q _ => ∃ (s td dd tl : Addr) (ws : List Str) (f : Str → Str → Str) (dl : List (Str × Str)) (tw : List Str) (r : Addr) (row : List Str), vs = [.ref s, .ref r] ∧ SetAt H s td dd tl ws f dl tw ∧ LogAt dl H r row ∧ row.length ≤ 30 ∧
  ∀ (q : Addr) (zs : List (Addr × List Str)) H', L2.Same H H' → H q = none → TLs H' q zs → (∀ z ∈ zs, H z.1 = none) → (zs.map (·.2)).Pairwise ltR → (∀ x, x ∈ zs.map (·.2) ↔ Hlv f tw (kds dl row) row x) → Q (.ref q) H'
abbrev nHv : List Str := ["_law_setting_here", "_law_log_here", "_law_found", "_law_first", "_law_size", "_law_part", "_law_row"]
theorem scHv : FnScope nHv ["_law_setting_here", "_law_log_here"] (defScope sHv) := ⟨rfl, rfl, rfl, by decide +kernel, rfl, by decide +kernel, by decide +kernel⟩
theorem ok_hv {g : Addr} {fd : FuncData} (F : Fun K "_law_halvings" "_law_halvings" sHv g fd) (B0 : Blt mg) (Z : Blp mg) (M : Cee P w K mg base 2 "_law_may_twice" ["_law_setting_here", "_law_log_here"] spMay) : FnOk P w K mg base CX0 3 g fd ["_law_setting_here", "_law_log_here"] spHv := by
  refine F.ok scHv (fun vs H Q E h => ?_) (fun cdv A outer s H vs Q E hr h => ?_)
  · obtain ⟨s, td, dd, tl, ws, f, dl, tw, r, row, rfl, _⟩ := h
    rfl
  · obtain ⟨s0, td, dd, tl, ws, f, dl, tw, r, row, rfl, se, lg, l30, k⟩ := h
    have nd := scHv.nd
    refine ⟨_, pss_cons (ps_set (i := 2) nd rfl (Or.inl rfl) (pe_dnewT))
      (pss_cons (ps_for PassesOwn.never rfl (pi_range1 rfl B0.range (pa_cons (pe_callB call_len_seq (by rfl) B0.len PySem.boot_len (pa_cons (pv 1) (pa_nil))) (pa_nil))) (pg_name (i := 3) nd rfl (Or.inl rfl)) (pss_one (ps_for PassesOwn.never rfl (pi_range2 rfl B0.range (pa_cons (pe_int) (pa_cons (pe_op op_add (pe_op op_fdivW (pe_op op_sub (pe_callB call_len_seq (by rfl) B0.len PySem.boot_len (pa_cons (pv 1) (pa_nil))) (pv 3)) pe_int) (pe_int)) (pa_nil)))) (pg_name (i := 4) nd rfl (Or.inl rfl)) (pss_cons (ps_set (i := 5) nd rfl (Or.inl rfl) (pe_slice sl_list (pv 1) (po_some (pv 3)) (po_some (pe_op op_add (pv 3) (pv 4)))))
      (pss_one (ps_if (pt_cut <| PW.pt (pw_and (pt_cmpR (op_eqD (hu65' hr)) (pv 5) (pe_slice sl_list (pv 1) (po_some (pe_op op_add (pv 3) (pv 4))) (po_some (pe_op op_add (pv 3) (pe_op op_mul pe_int (pv 4))))) (nomark _)) (pw_and1 (pt_val (pe_c M hr rfl (pa_cons (pv 0) (pa_cons (pv 5) (pa_nil)))))))) (pss_one (ps_dput (hu_of hr) (pv 2) (pe_callTy call_tuple_of (by rfl) Z.tuple (by decide +kernel) (pa_cons (pe_op op_cat (pe_slice sl_list (pv 1) (po_none) (po_some (pv 3))) (pe_slice sl_list (pv 1) (po_some (pe_op op_add (pv 3) (pv 4))) (po_none))) (pa_nil))) pe_bl rfl)) pss_nil))))))
      (pss_one (ps_ret (pe_lc (own := [("_law_row", 6)]) (g := gName 6) (tt := tYes) (te := tCB (Evl.rListS K) (tCons (tVar 6) tNil)) rfl nd (pi_list (pe_callB (cr_sortK rfl (hu65' hr)) (by rfl) Z.sorted (by decide +kernel) (pa_cons (pv 2) (pa_nil)))) (blkOk_by (own := [("_law_row", 6)]) (N := nHv) (sc := defScope sHv) (by decide +kernel)) (fun _ _ _ _ _ => pg_name (i := 6) nd rfl (Or.inl rfl)) (fun _ _ _ _ _ => pts_nil) (fun _ _ _ _ _ => pe_callTy call_list_of (by rfl) Z.list (by decide +kernel) (pa_cons (pv 6) (pa_nil))))))), ?_⟩
    have ll : ((row.map V.str).length : Nat) = row.length := List.length_map _
    have mem : ∀ x ∈ row, x ∈ keysD dl := lg.mem
    refine fun d d0 => ?_
    have s1 := Same.new (H := H) (o := .dT []) d0
    have hd1 : upd H d (.dT []) d = some (.dT (kvU [])) := upd_same
    generalize upd H d (.dT []) = H1 at s1 hd1 ⊢
    refine at_name (σ' := [some (.ref s0), some (.ref r), some (.ref d), none, none, none, none]) rfl ?_
    refine ⟨_, rfl, r, _, rfl, .inl (SqL.of (s1 _ _ lg.at')), ?_⟩
    rw [ll]
    refine ⟨_, rfl, by omega, by omega, ?_⟩
    refine for_range (lo := 0) (n := row.length) (fun i σ H' => ∃ (x3 x4 x5 : Option V) (ks : List (List Str)), σ = [some (.ref s0), some (.ref r), some (.ref d), x3, x4, x5, none] ∧ L2.Same H H' ∧ H' d = some (.dT (kvU ks)) ∧ ks.Nodup ∧ ks.length ≤ 31 * i ∧ ∀ x, x ∈ ks ↔ ∃ a n, a < i ∧ 0 < n ∧ a + 2 * n ≤ row.length ∧ (row.take (a + n)).drop a = (row.take (a + 2 * n)).drop (a + n) ∧ btw f (kds dl row) (a, a + n) ∈ tw ∧ x = hvAt row a n) ?_ ?_ ?_
    · exact ⟨_, _, _, [], rfl, s1, hd1, .nil, by simp, fun x => by simp⟩
    · rintro i σ H2 hi ⟨x3, x4, x5, ks, rfl, s2, hd2, nk, lk, mk⟩
      rw [show (0 : Int) + (i : Nat) = ((i : Nat) : Int) by omega]
      refine at_name (σ' := [some (.ref s0), some (.ref r), some (.ref d), some (.int (i : Nat)), x4, x5, none]) rfl ?_
      refine ⟨_, rfl, r, _, rfl, .inl (SqL.of (s2 _ _ lg.at')), _, rfl, _, _, rfl, rfl, _, _, rfl, rfl, ⟨by decide, by decide⟩, _, _, rfl, rfl, 1, (((row.length - i) / 2 : Nat) : Int) + 1, (by show ([V.int 1, V.int (((((row.map V.str).length : Nat) : Int) - ((i : Nat) : Int)) / 2 + 1)] : List V) = _; rw [ll, show ((row.length : Nat) : Int) - ((i : Nat) : Int) = ((row.length - i : Nat) : Int) by omega]; rfl), ⟨by omega, by omega, by omega, by omega⟩, ?_⟩
      have en : ((((row.length - i) / 2 : Nat) : Int) + 1 - 1).toNat = (row.length - i) / 2 := by omega
      rw [en]
      refine for_range (lo := 1) (n := (row.length - i) / 2) (fun j σ H' => ∃ (x4 x5 : Option V) (ks : List (List Str)), σ = [some (.ref s0), some (.ref r), some (.ref d), some (.int (i : Nat)), x4, x5, none] ∧ L2.Same H H' ∧ H' d = some (.dT (kvU ks)) ∧ ks.Nodup ∧ ks.length ≤ 31 * i + j ∧ ∀ x, x ∈ ks ↔ ∃ a n, (a < i ∨ (a = i ∧ n < 1 + j)) ∧ 0 < n ∧ a + 2 * n ≤ row.length ∧ (row.take (a + n)).drop a = (row.take (a + 2 * n)).drop (a + n) ∧ btw f (kds dl row) (a, a + n) ∈ tw ∧ x = hvAt row a n) ?_ ?_ ?_
      · refine ⟨_, _, ks, rfl, s2, hd2, nk, by omega, fun x => (mk x).trans ⟨?_, ?_⟩⟩
        · rintro ⟨a, n, h, h2⟩
          exact ⟨a, n, .inl h, h2⟩
        · rintro ⟨a, n, h | ⟨h, h1⟩, h2, h3⟩
          · exact ⟨a, n, h, h2, h3⟩
          · omega
      · rintro j σ H3 hj ⟨x4, x5, ks, rfl, s3, hd3, nk, lk, mk⟩
        rw [show (1 : Int) + (j : Nat) = ((1 + j : Nat) : Int) by omega]
        refine at_name (σ' := [some (.ref s0), some (.ref r), some (.ref d), some (.int (i : Nat)), some (.int (1 + j : Nat)), x5, none]) rfl ?_
        obtain ⟨n, en⟩ : ∃ n, n = 1 + j := ⟨_, rfl⟩
        rw [← en]
        have n0 : 0 < n := by omega
        have hin : i + 2 * n ≤ row.length := by omega
        have e1 : ((i : Nat) : Int) + ((n : Nat) : Int) = ((i + n : Nat) : Int) := by omega
        have e2 : ((i : Nat) : Int) + 2 * ((n : Nat) : Int) = ((i + 2 * n : Nat) : Int) := by omega
        refine ⟨_, rfl, _, rfl, _, rfl, _, rfl, _, rfl, _, _, rfl, rfl, _, rfl, r, _, rfl, SqL.of (s3 _ _ lg.at'), fun p p0 => ?_⟩
        rw [e1, cut_mid _ _ _ (by omega) (by rw [ll]; omega), ← List.map_take, ← List.map_drop]
        have s4 := Same.new (H := H3) (o := .lst (((row.take (i + n)).drop i).map V.str)) p0
        have hp : upd H3 p (.lst (((row.take (i + n)).drop i).map V.str)) p = _ := upd_same
        generalize upd H3 p (.lst (((row.take (i + n)).drop i).map V.str)) = H4 at s4 hp ⊢
        refine at_name (σ' := [some (.ref s0), some (.ref r), some (.ref d), some (.int (i : Nat)), some (.int (n : Nat)), some (.ref p), none]) rfl ?_
        have ne : (row.take (i + n)).drop i ≠ [] := fun e => by
          have := congrArg List.length e
          rw [List.length_drop, List.length_take, List.length_nil] at this
          omega
        have s04 := s3.trans s4
        have lg4 := lg.mono s04
        have m1 : ∀ x ∈ (row.take (i + n)).drop i, x ∈ keysD dl := fun x hx => mem x (List.mem_of_mem_take (List.mem_of_mem_drop hx))
        have m2 : ∀ x ∈ (row.take (i + 2 * n)).drop (i + n), x ∈ keysD dl := fun x hx => mem x (List.mem_of_mem_take (List.mem_of_mem_drop hx))
        obtain ⟨yes, ey⟩ : ∃ b : Bool, b = (decide ((row.take (i + n)).drop i = (row.take (i + 2 * n)).drop (i + n)) && decide (btw f (kds dl row) (i, i + n) ∈ tw)) := ⟨_, rfl⟩
        refine ⟨fun b H' => b = yes ∧ L2.Same H4 H', ?_, ?_⟩
        · refine ⟨_, rfl, _, rfl, _, rfl, _, rfl, _, _, rfl, rfl, _, rfl, _, rfl, _, rfl, _, _, rfl, rfl, .inl ⟨by decide, by decide⟩, _, _, rfl, rfl, _, rfl, r, _, rfl, SqL.of lg4.at', fun p2 p20 => ?_⟩
          rw [e1, e2, cut_mid _ _ _ (by omega) (by rw [ll]; omega), ← List.map_take, ← List.map_drop]
          have s5 := Same.new (H := H4) (o := .lst (((row.take (i + 2 * n)).drop (i + n)).map V.str)) p20
          have hp2 : upd H4 p2 (.lst (((row.take (i + 2 * n)).drop (i + n)).map V.str)) p2 = _ := upd_same
          generalize upd H4 p2 (.lst (((row.take (i + 2 * n)).drop (i + n)).map V.str)) = H5 at s5 hp2 ⊢
          refine ⟨_, _, dp_strs (SqL.of (s5 _ _ hp)), dp_strs (SqL.of hp2), shaped_strs _ fun x hx => se.ok.wd x (m1 x hx), shaped_strs _ fun x hx => se.ok.wd x (m2 x hx), ?_⟩
          rw [eqv_strs]
          refine ⟨_, rfl, ite2 (fun h => ?_) (fun h => ?_)⟩
          · refine ⟨_, rfl, _, rfl, s0, td, dd, tl, ws, f, dl, tw, p, _, rfl, se.mono (s04.trans s5), ⟨s5 _ _ hp, by rw [List.length_drop, List.length_take]; omega, m1⟩, ne, fun H6 s6 => ?_⟩
            have ev : lp f (kds dl ((row.take (i + n)).drop i)) = btw f (kds dl row) (i, i + n) := by rw [kds_cut]; rfl
            rw [ev]
            exact ⟨_, rfl, by rw [ey, h, Bool.true_and], s5.trans s6⟩
          · rw [ey, Bool.eq_false_iff.mpr h, Bool.false_and]
            exact ⟨rfl, s5⟩
        rintro b H5 ⟨rfl, s5⟩
        have s05 := s04.trans s5
        have hd5 := s5 _ _ (s4 _ _ hd3)
        refine ite2 (fun h => ?_) (fun h => ?_)
        · rw [ey, Bool.and_eq_true] at h
          have h1 := of_decide_eq_true h.1
          have h2 := of_decide_eq_true h.2
          have lg5 := lg.mono s05
          refine ⟨_, rfl, _, rfl, _, rfl, _, rfl, r, _, rfl, SqL.of lg5.at', fun p1 p10 => ?_⟩
          rw [cut_to _ _ (by rw [ll]; omega), ← List.map_take]
          have t1 := Same.new (H := H5) (o := .lst ((row.take i).map V.str)) p10
          have hp1 : upd H5 p1 (.lst ((row.take i).map V.str)) p1 = _ := upd_same
          generalize upd H5 p1 (.lst ((row.take i).map V.str)) = G1 at t1 hp1 ⊢
          refine ⟨_, rfl, _, rfl, _, rfl, _, _, rfl, rfl, _, rfl, r, _, rfl, SqL.of (t1 _ _ lg5.at'), fun p2 p20 => ?_⟩
          rw [e1, cut_from _ _ (by rw [ll]; omega), ← List.map_drop]
          have t2 := Same.new (H := G1) (o := .lst ((row.drop (i + n)).map V.str)) p20
          have hp2 : upd G1 p2 (.lst ((row.drop (i + n)).map V.str)) p2 = _ := upd_same
          generalize upd G1 p2 (.lst ((row.drop (i + n)).map V.str)) = G2 at t2 hp2 ⊢
          have l1 : ((row.take i).map V.str).length ≤ 30 := by rw [List.length_map, List.length_take]; omega
          have l2 : ((row.drop (i + n)).map V.str).length ≤ 30 := by rw [List.length_map, List.length_drop]; omega
          refine ⟨p1, p2, _, _, rfl, rfl, t2 _ _ hp1, hp2, by rw [sizeLine_eq]; omega, fun p5 p50 => ?_⟩
          rw [← List.map_append, show row.take i ++ row.drop (i + n) = hvAt row i n from rfl]
          have t5 := Same.new (H := G2) (o := .lst ((hvAt row i n).map V.str)) p50
          have hp5 : upd G2 p5 (.lst ((hvAt row i n).map V.str)) p5 = _ := upd_same
          generalize upd G2 p5 (.lst ((hvAt row i n).map V.str)) = G5 at t5 hp5 ⊢
          refine ⟨p5, _, rfl, .inl ⟨SqL.of hp5, fun p6 p60 => ?_⟩⟩
          have t6 := Same.new (H := G5) (o := .tup ((hvAt row i n).map V.str)) p60
          have hp6 : upd G5 p6 (.tup ((hvAt row i n).map V.str)) p6 = _ := upd_same
          generalize upd G5 p6 (.tup ((hvAt row i n).map V.str)) = G6 at t6 hp6 ⊢
          have t06 : L2.Same H5 G6 := t1.trans (t2.trans (t5.trans t6))
          obtain ⟨ks2, e3, n2, m3, l2'⟩ := kvU_put nk (hvAt row i n)
          refine ⟨d, _, rfl, DPut.t (k := keyT (hvAt row i n)) (t06 _ _ hd5) (by rw [keyT_v]; exact hp6) (by unfold kvU; rw [List.length_map, sizeLine_eq]; omega), ?_⟩
          rw [e3]
          refine ⟨_, _, ks2, rfl, fun c o e => (upd_ne (ne_of_none e d0)).trans (t06 _ _ (s05 _ _ e)), upd_same, n2, by omega, fun x => ?_⟩
          rw [m3, mk]
          constructor
          · rintro (⟨a, c, h1, h2⟩ | h3)
            · exact ⟨a, c, h1.imp id fun q => ⟨q.1, by omega⟩, h2⟩
            · exact ⟨i, n, .inr ⟨rfl, by omega⟩, n0, hin, h1, h2, h3⟩
          · rintro ⟨a, c, h1, h2, h3, h4, h5, h6⟩
            rcases h1 with h1 | ⟨h1, h7⟩
            · exact .inl ⟨a, c, .inl h1, h2, h3, h4, h5, h6⟩
            · by_cases q : c = n
              · rw [h1, q] at h6; exact .inr h6
              · exact .inl ⟨a, c, .inr ⟨h1, by omega⟩, h2, h3, h4, h5, h6⟩
        · have h : ¬ ((row.take (i + n)).drop i = (row.take (i + 2 * n)).drop (i + n) ∧ btw f (kds dl row) (i, i + n) ∈ tw) := fun z => h (by rw [ey, decide_eq_true z.1, decide_eq_true z.2]; rfl)
          refine ⟨_, _, ks, rfl, s05, hd5, nk, by omega, fun x => (mk x).trans ⟨fun ⟨a, c, h, h2⟩ => ⟨a, c, h.imp id fun q => ⟨q.1, by omega⟩, h2⟩, fun ⟨a, c, h1, h2, h3, h4, h5, h6⟩ => ?_⟩⟩
          rcases h1 with h1 | ⟨h1, h7⟩
          · exact ⟨a, c, .inl h1, h2, h3, h4, h5, h6⟩
          · by_cases q : c = n
            · rw [h1, q] at h4 h5; exact absurd ⟨h4, h5⟩ h
            · exact ⟨a, c, .inr ⟨h1, by omega⟩, h2, h3, h4, h5, h6⟩
      · rintro σ H3 ⟨x4, x5, ks, rfl, s3, hd3, nk, lk, mk⟩
        refine ⟨_, _, _, ks, rfl, s3, hd3, nk, by omega, fun x => (mk x).trans ⟨?_, ?_⟩⟩
        · rintro ⟨a, n, h, h2⟩
          exact ⟨a, n, by omega, h2⟩
        · rintro ⟨a, n, h, h2, h3, h4⟩
          exact ⟨a, n, by omega, h2, h3, h4⟩
    · rintro σ H2 ⟨x3, x4, x5, ks, rfl, s2, hd2, nk, lk, mk⟩
      refine ⟨_, rfl, d, kvU ks, ks, rfl, .inl hd2, kvU_keys ks, fun x hx => ?_, by omega, fun qs p pm so hq p0 => ?_⟩
      · obtain ⟨a, n, h1, h2, h3, h4, h5, rfl⟩ := (mk x).mp hx
        intro e
        have := congrArg List.length e
        unfold hvAt at this
        rw [List.length_append, List.length_take, List.length_drop, List.length_nil] at this
        omega
      have t1 := Same.new (H := H2) (o := .lst (qs.map fun q => V.ref q.1)) p0
      have hp1 : upd H2 p (.lst (qs.map fun q => V.ref q.1)) p = _ := upd_same
      generalize upd H2 p (.lst (qs.map fun q => V.ref q.1)) = G1 at t1 hp1 ⊢
      have lq : qs.length = ks.length := by have := pm.length_eq; rw [List.length_map] at this; exact this
      refine ⟨p, rfl, ⟨_, SqL.of hp1⟩, fun D hD => ?_⟩
      refine lcQ (walk_LI qs fun q => V.ref q.1) rel_same (fun _ => true) (fun _ _ => True) (fun H' q v => ∃ a, v = .ref a ∧ a ≠ D ∧ H' a = some (.lst (q.2.map V.str)) ∧ H a = none) (by omega) hD (fun s e => s _ _ e)
        (fun s ⟨a, e1, e2, e3, e4⟩ => ⟨a, e1, e2, s _ _ e3, e4⟩) (fun ⟨a, e1, e2, e3, e4⟩ => ⟨a, e1, e2, (upd_ne e2).trans e3, e4⟩) (fun h => h) trivial (fun H' s => SqL.of (s _ _ hp1)) (fun j z H4 Y N ej s4 _ hDo kY kN => ?_) (fun Lz H4 s4 _ eLz hD4 fz => ?_)
      · refine at_name (σ' := [some (.ref s0), some (.ref r), some (.ref d), x3, x4, x5, some (.ref z.1)]) rfl ⟨rfl, yes_if ?_⟩
        have hz := s4 _ _ (t1 _ _ (hq z (List.mem_of_getElem? ej)))
        refine ⟨_, rfl, z.1, _, rfl, .inr (SqT.of hz), fun a a0 => kY rfl _ _ (Same.new a0) trivial ⟨a, rfl, fun e => ?_, upd_same, none_back (s2.trans (t1.trans s4)) a0⟩⟩
        obtain ⟨o, ho⟩ := hDo
        rw [e, ho] at a0; cases a0
      · obtain ⟨zs, z1, z2, z3, z4⟩ := tl_new fz
        have z2 : zs.map (·.2) = qs.map (·.2) := by
          rw [z2]
          have : Lz.map (fun q => q.1.2) = (Lz.map (·.1)).map (·.2) := by rw [List.map_map]; rfl
          rw [this, eLz, List.filter_eq_self.mpr fun _ _ => rfl]
        rw [z1] at hD4
        refine k D zs H4 (s2.trans (t1.trans s4)) (none_back (s2.trans t1) hD) ⟨hD4, z3⟩ z4 (by rw [z2]; exact srt_of pm nk so) fun x => ?_
        rw [z2, pm.mem_iff, mk]
        exact ⟨fun ⟨a, n, h1, h2⟩ => ⟨a, n, h2⟩, fun ⟨a, n, h1, h2, h3⟩ => ⟨a, n, by omega, h1, h2, h3⟩⟩
end
end KT
set_option Elab.async false
set_option linter.all false
set_option maxRecDepth 100000
set_option maxHeartbeats 2000000
namespace TxT
open PySem PySem.Spec PySem.W PyProof.Rows L2 DTp
def T0 (P : Program) (w : World) (h : Heap) (a : Addr) (L : List (Addr × List Key)) : Prop := ∃ (es : Array (Int × Value)) (ep : Nat) (t : SetTable), (∃ o, h.get? a = some o ∧ o.ExactSet ∧ o.data = .set es ep t) ∧ es.toList = L.map (ent P w) ∧ TabOk t (L.map fun p => gh P w p.2) ∧
  (L.map (·.2)).Nodup ∧ (w.params.followText "set-order" = true ∨ t.led = true) ∧ L.length * 5 < t.mask * 3 ∧ L.length < 64
theorem Tb.t0 {P : Program} {w : World} {h : Heap} {a : Addr} {L : List (Addr × List Key)} {es : Array (Int × Value)} {ep : Nat} {t : SetTable} (R : Tb P w h a L es ep t) : T0 P w h a L := ⟨es, ep, t, R.ob, R.en, R.tab, R.nd, R.led, R.room, R.few⟩
def raw (L : List (Addr × List Str)) : List (Addr × List Key) := L.map fun p => (p.1, keyT p.2)
/-- such a set in the tracked heap -/
def TpO (P : Program) (w : World) (a : Addr) (L : List (Addr × List Str)) : HO := .ext fun h => T0 P w h a (raw L)
theorem tp_ok {P : Program} {w : World} {H : Hp} {h : Heap} {a : Addr} {L : List (Addr × List Str)} (R : T0 P w h a (raw L)) : ObjOk P w H h a (TpO P w a L) := by
  refine ⟨R, ?_, fun h1 h2 p k => ?_⟩
  · obtain ⟨_, _, _, ⟨o, ho, _⟩, _⟩ := R
    exact ⟨o, ho⟩
  · obtain ⟨es, ep, t, ⟨o, ho, r⟩, q⟩ := p
    exact ⟨es, ep, t, ⟨o, k _ ho, r⟩, q⟩
theorem raw_keys (L : List (Addr × List Str)) : (raw L).map (·.2) = (L.map (·.2)).map keyT := by unfold raw; rw [List.map_map, List.map_map]; rfl
theorem raw_mem {L : List (Addr × List Str)} {x : List Str} : keyT x ∈ (raw L).map (·.2) ↔ x ∈ L.map (·.2) := by
  rw [raw_keys, List.mem_map]
  exact ⟨fun ⟨y, hy, e⟩ => KT.keyT_inj e ▸ hy, fun h => ⟨x, h, rfl⟩⟩
theorem raw_nd {L : List (Addr × List Str)} (h : ((raw L).map (·.2)).Nodup) : (L.map (·.2)).Nodup := by
  rw [raw_keys] at h
  exact List.Pairwise.of_map keyT (fun a b n e => n (congrArg keyT e)) h
theorem map_perm {α β : Type} {f : α → β} {l : List α} {l' : List β} (p : l'.Perm (l.map f)) : ∃ l2 : List α, l' = l2.map f ∧ l2.Perm l := by
  have pr : ∀ l : List α, Paired (fun (y : β) x => y = f x) (l.map f) l := fun l => by induction l with
    | nil => exact .nil
    | cons x l ih => exact .cons rfl ih
  obtain ⟨l2, h1, h2⟩ := TxS.paired_perm p (pr l)
  refine ⟨l2, ?_, h2⟩
  clear p h2 pr
  induction h1 with
  | nil => rfl
  | cons e _ ih => rw [List.map_cons, ← ih, e]
theorem fresh0 {P : Program} {w : World} {h : Heap} : T0 P w (h.push { cls := .type "set", dict := none, data := .set #[] 0 (.fresh 0 0 (!w.params.followText "set-order")) }) h.objs.size (raw []) := by
  refine ⟨#[], 0, _, ⟨_, Heap.get?_push_size _ rfl, ⟨rfl, rfl, rfl⟩, rfl⟩, rfl, ⟨List.Pairwise.nil, rfl, rfl, .inl rfl, (fun x hx => by cases hx), fun i g j hi => (by simp [raw] at hi)⟩, List.nodup_nil, ?_, by show 0 * 5 < 7 * 3; decide, by show 0 < 64; decide⟩
  show _ ∨ (!w.params.followText "set-order") = true
  cases w.params.followText "set-order" <;> simp
section
variable {X : Cx}
theorem tp_get {pins : List (Addr × Obj)} {σ : L2.St} {H : Hp} {s : Shared} {a : Addr} {L : List (Addr × List Str)} (I : Inv X pins σ H s) (ha : H a = some (TpO X.prog X.w a L)) (tu : ∀ p ∈ L, H p.1 = some (.tup (p.2.map V.str))) :
    ∃ es ep t, Tb X.prog X.w s.heap a (raw L) es ep t := by
  obtain ⟨es, ep, t, h1, h2, h3, h4, h5, h6, h7⟩ : T0 X.prog X.w s.heap a (raw L) := (I.hok a _ ha).1
  refine ⟨es, ep, t, h1, h2, h3, h4, fun p hp => ?_, h5, h6, h7⟩
  obtain ⟨q, hq, rfl⟩ := List.mem_map.mp hp
  exact key_of I.hok (ks := keyT q.2) (by rw [keyT_v]; exact tu q hq)
/-- an item, a tuple of texts, goes to the new set -/
def emT (P : Program) (w : World) (te : TE) (D : Addr) : L2.St → Hp → (Hp → Prop) → Prop := fun σ H Nx => te σ H fun y H1 => ∃ (b : Addr) (x : List Str) (L : List (Addr × List Str)), y = .ref b ∧ H1 b = some (.tup (x.map V.str)) ∧ H1 D = some (TpO P w D L) ∧ (∀ p ∈ L, H1 p.1 = some (.tup (p.2.map V.str))) ∧ L.length + 1 < 64 ∧
  ∀ L', (x ∈ L.map (·.2) → L' = L) → (x ∉ L.map (·.2) → L'.Perm ((b, x) :: L)) → Nx (upd H1 D (TpO P w D L'))
theorem add_tp {P : Program} {w : World} {A : Around} {E : Value → Shared → Prop} {s : Shared} {a b : Addr} {k : List Key} {L : List (Addr × List Key)} {es : Array (Int × Value)} {ep : Nat} {t : SetTable} {Q : Value → Shared → Prop} (R : Tb P w s.heap a L es ep t) (hb : IsM P w s.heap k b) (hu : A.units + 8 < cLine)
    (few : L.length + 1 < 64) (q : ∀ h' tk' L' es' ep' t', Heap.SameBut a s.heap h' → Tb P w h' a L' es' ep' t' → (k ∈ L.map (·.2) → L' = L) → (k ∉ L.map (·.2) → L'.Perm ((b, k) :: L)) → Q .none { s with heap := h', toks := tk' }) :
    wpAny (model P w) A (call (.builtin "set.add") [.ref a, .ref b]) Q E s := by
  have ty : s.TypeIs (.ref a) "set" := let ⟨o, ho, hx, _⟩ := R.ob; ⟨o, ho, hx.1⟩
  refine wpAny_call_entry F.slot_set_add ty F.entry_set_add ?_ (F.args_set_add_2 _ _)
  unfold Builtin.«set.add» Builtin.Frozenset.oneOther
  simp only [List.isEmpty_nil, bind_assoc]
  unfold Builtin.Frozenset.addrOf setAdd
  refine wpAny_bind (wpAny_pure ?_); try dsimp only
  refine wpAny_bind (wpAny_pure ?_); try dsimp only
  refine wpAny_bind (wpAny_holding (wpAny_bind (wpAny_pyHash_tuple (by have e : A.in1.units = A.units + 1 := rfl; first | omega | (show A.units + 1 < cLine; omega)) hb ?_)))
  refine putIn (s := { s with toks := s.toks + (k.length + 1) }) R hb (by have e : A.in1.units = A.units + 1 := rfl; first | omega | (show A.units + 1 < cLine; omega)) few fun v h' L' es' ep' t' sb R' c1 c2 => ?_
  show wpAny _ _ (ret Value.none) _ _ _
  exact wpAny_pure ⟨_, rfl, q h' _ L' es' ep' t' sb R' c1 c2⟩
theorem emT_ok {B : Cx} {D : Addr} {elt : Expr} {gens : List Comprehension} {scope : Scope} {pos : Pos} {te : TE} (b1 : B.xe = GC.NoE) (hu : B.A.units + 64 < cLine) (he : PE B elt te) : GC.EmOk B (.ref D) (.SetComp elt gens scope pos) (emT B.prog B.w te D) := by
  intro pins s σ H Nx I q
  have r := he.run pins s σ H _ I q
  rw [b1] at r
  refine thnF r fun x s1 h => ?_
  obtain ⟨y, H1, I1, r1, b, k, L, rfl, hb, hD, tu, few, nx⟩ := h
  obtain rfl : x = Value.ref b := r1
  obtain ⟨es, ep, t, R⟩ := tp_get I1 hD tu
  have hk : IsM B.prog B.w s1.heap (keyT k) b := key_of I1.hok (ks := keyT k) (by rw [keyT_v]; exact hb)
  refine add_tp R hk (by omega) (by unfold raw; rw [List.length_map]; exact few) fun h' tk' L' es' ep' t' sb R' c1 c2 => ?_
  obtain ⟨L2, e2, p1, p2⟩ : ∃ L2, L' = raw L2 ∧ (k ∈ L.map (·.2) → L2 = L) ∧ (k ∉ L.map (·.2) → L2.Perm ((b, k) :: L)) := by
    by_cases c : k ∈ L.map (·.2)
    · exact ⟨L, c1 (raw_mem.mpr c), fun _ => rfl, fun z => absurd c z⟩
    · have pm := c2 (fun z => c (raw_mem.mp z))
      obtain ⟨l2, e, p⟩ := map_perm (f := fun p : Addr × List Str => (p.1, keyT p.2)) (l := (b, k) :: L) (l' := L') pm
      exact ⟨l2, e, fun z => absurd z c, fun _ => p⟩
  subst e2
  refine ⟨_, I1.write (e := D) (t' := tk') (by rw [hD]; trivial) (.inl rfl) (fun c u hc hu => (sb.2 c hc).trans hu) ?_ (tp_ok R'.t0), nx L2 p1 p2⟩
  obtain ⟨o, ho, _⟩ := R'.ob
  exact ⟨o, ho⟩
theorem new_setT {P : Program} {w : World} : GC.NewOk P w (newSet (.type "set")) fun D => TpO P w D [] := fun A E s Q h => PpSet.newSet_ok (h _ fun H' _ => tp_ok fresh0)
/-- a set comprehension of tuples of texts -/
theorem pe_scT {elt tg iter : Expr} {ifs : List Expr} {gens : List Comprehension} {scope : Scope} {own : List (Str × Nat)} {pos : Pos} {wi : TI} {g : TG} {tt : TT} {te : TE} {cs : List GC.Cl} (hc : X.calm = true) (hN : X.N.Nodup) (hi : PI X tg iter wi) (ok : BlkOk X.N X.env.scope scope own)
    (hg : GC.Blk X scope fun B => PG B tg g) (ht : GC.Blk X scope fun B => PTs B ifs tt) (r : GC.Cls X scope gens cs) (nst : GC.Nested (⟨tg, iter, ifs, wi, g, tt, own.map (·.2)⟩ :: cs)) (he : GC.Blk X scope fun B => PE B elt te) (hu : X.A.units + 65 < cLine) (hs : ∀ env x, foldedSetIterable iter env x = pure x := by intro _ _; rfl) :
    PE X (.SetComp elt (⟨tg, iter, ifs, 0⟩ :: gens) scope pos) (GC.tCo (fun D => TpO X.prog X.w D []) ⟨tg, iter, ifs, wi, g, tt, own.map (·.2)⟩ cs (emT X.prog X.w te)) :=
  GC.pe_co rfl (.s ..) new_setT hc hN hi ok hg ht r nst (fun D s H C cl fp => emT_ok rfl (by first | (show X.A.units + 64 < cLine; omega) | (show X.A.units + 1 + 64 < cLine; omega)) (he s H C cl fp)) hs
/-- sorted(set), the tuples not empty -/
def rSortTp (P : Program) (w : World) : List V → Hp → VK → Prop := fun vs H Q => ∃ (a : Addr) (L : List (Addr × List Str)), vs = [.ref a] ∧ H a = some (TpO P w a L) ∧ (∀ p ∈ L, H p.1 = some (.tup (p.2.map V.str))) ∧ (∀ p ∈ L, p.2 ≠ []) ∧
  ∀ (qs : List (Addr × List Str)) (p : Addr), qs.Perm L → (qs.map (·.2)).Pairwise ltR → H p = none → Q (.ref p) (upd H p (.lst (qs.map fun q => V.ref q.1)))
theorem cr_sortTp (hc : X.calm = true) (hu : X.A.units + 64 < cLine) : CallR X (.builtin "sorted") (rSortTp X.prog X.w) := by
  intro pins s σ H vs us Q I r h
  obtain ⟨a, L, rfl, ha, tu, ne, q⟩ := h
  rw [Vals.ref1 r]
  obtain ⟨es, ep, t, R⟩ := tp_get I ha tu
  obtain ⟨o, ho, hex, hd⟩ := R.ob
  have few := R.few
  have lraw : (raw L).length = L.length := List.length_map _
  refine Calls.call_function_entry PyProof.Rows.kind_sorted PyProof.Rows.plain_sorted PyProof.Rows.entry_sorted (PyProof.Rows.args_sorted1 _) ?_
  unfold Builtin.«sorted»
  refine wpAny_bind (m := checkCount "sorted" 1 1 _) (wpAny_pure (wpAny_bind (collect_set (A := X.A.in1) (I.ok.hd hc) ⟨o, ho, hex.1, hd⟩ R.fits (by rw [R.size, lraw]; unfold scanBound; omega) R.tab.ris R.led fun s1 out k1 hz g1 o1 pm => ?_)))
  obtain ⟨bs, eb, pb⟩ : ∃ bs : List (Addr × List Str), out = bs.map (fun b => Value.ref b.1) ∧ bs.Perm L := by
    have e : es.toList.map (·.2) = L.map fun b => Value.ref b.1 := by
      rw [R.en]
      unfold raw
      rw [List.map_map, List.map_map]; rfl
    rw [e] at pm
    exact map_perm pm
  have bmem : ∀ b ∈ bs, H b.1 = some (.tup (b.2.map V.str)) := fun b hb => tu b (pb.mem_iff.mp hb)
  have z : s1 = { s with heap := s1.heap, gens := s1.gens, drawn := s1.drawn, toks := s1.toks } := by cases s1; cases s; cases o1; rfl
  have I1 : Inv X pins σ H s1 := by
    rw [z]
    exact I.call (ch := []) (Un.kept k1) (I.hok.kept k1) (by rw [g1]; exact I.bare) fun _ z => nomatch z
  refine wpAny_bind (wpAny_newList ?_ (by rw [eb, List.length_map, pb.length_eq, sizeLine_eq]; omega))
  have hoL : (s1.heap.push (seqObj "list" out.toArray 0)).get? s1.heap.objs.size = some (seqObj "list" out.toArray 0) := Heap.get?_push_size _ rfl
  have I2 : Inv X pins σ H { s1 with heap := s1.heap.push (seqObj "list" out.toArray 0) } := I1.kept (t' := s1.toks) fun b u e => Heap.get?_push_of_some _ e
  have rd : ∀ b ∈ bs, ∃ as, Reads (s1.heap.push (seqObj "list" out.toArray 0)) (.ref b.1) (encR b) as ∧ s1.heap.objs.size ∉ as := fun b hb => by
    obtain ⟨its, rv, ⟨ot, hot, hct, nt, hdt⟩, _⟩ := I2.tuple (SqT.of (bmem b hb))
    exact ⟨[], .tuple hot hct hdt (by simpa using reads_texts rv), by simp⟩
  refine wpAny_bind (wpAny_holding (list_sort_data (s := { s1 with heap := s1.heap.push (seqObj "list" out.toArray 0) }) (R := fun v b => v = .ref b.1 ∧ b ∈ bs) (bs := bs) (enc := encR) hoL ?_ ?_ (.of fun b b' => ?_) ?_ (by rw [pb.length_eq, sizeLine_eq]; omega) (fun b hb => ?_) fun out2 ho' hs => ?_))
  · rw [eb]; exact each_of _ (fun _ h => h) bs fun b hb => ⟨rfl, hb⟩
  · have rd' := each_of (R := fun v b => ∃ as, Reads (s1.heap.push (seqObj "list" out.toArray 0)) v (encR b) as ∧ s1.heap.objs.size ∉ as) (fun b : Addr × List Str => Value.ref b.1) (fun _ h => h) bs rd
    rw [← eb] at rd'
    exact rd'
  · unfold encR
    simp only [alike]
    exact alike_texts _ _
  · refine .inl fun d hd => ?_
    obtain ⟨b, hb, rfl⟩ := List.mem_map.mp hd
    have n := ne _ (pb.mem_iff.mp hb)
    unfold encR
    cases e : b.2 with
    | nil => exact absurd e n
    | cons x r => exact ⟨_, _, rfl⟩
  · show X.A.in1.units + 1 + (encR b).depth < cLine
    have e : (encR b).depth ≤ 2 := by
      unfold encR
      simp only [PyData.depth]
      have := depth_texts b.2
      omega
    have e2 : X.A.in1.units = X.A.units + 1 := rfl
    omega
  · obtain ⟨qs, eq⟩ : ∃ qs, qs = bs.mergeSort (dataLe false encR) := ⟨_, rfl⟩
    rw [← eq] at hs
    have pq : qs.Perm bs := by rw [eq]; exact List.mergeSort_perm _ _
    have eo : out2 = qs.map fun b => Value.ref b.1 := each_eq _ (hs.mono fun v b h => h.1)
    have pL : qs.Perm L := pq.trans pb
    have so : (qs.map (·.2)).Pairwise (fun x y => ¬ ltR y x) := by
      rw [List.pairwise_map, eq]
      refine (List.pairwise_mergeSort (le := dataLe false encR) (fun a b c h k => ?_) (fun a b => ?_) bs).imp fun h => (encR_le _ _).mp h
      · have h1 := (encR_le a b).mp h
        have h2 := (encR_le b c).mp k
        refine (encR_le a c).mpr fun z => ?_
        rcases ltR_tri a.2 b.2 with c1 | c1 | c1
        · exact h2 (ltR_trans z c1)
        · rw [c1] at z; exact h2 z
        · exact h1 c1
      · rcases Classical.em (ltR b.2 a.2) with h | h
        · rw [(encR_le b a).mpr (ltR_as _ _ h), Bool.or_true]
        · rw [(encR_le a b).mpr h]; rfl
    have st : (qs.map (·.2)).Pairwise ltR := KT.srt_of (pL.map (·.2)) (raw_nd R.nd) so
    have hn : H s1.heap.objs.size = none := I1.hok.fresh (Nat.le_refl _)
    obtain ⟨c, hcc⟩ := sortedHeap_at (vs := out) (out := out2.toArray) hoL
    have lq : (qs.map fun q => V.ref q.1).length ≤ sizeLine := by rw [List.length_map, pL.length_eq, sizeLine_eq]; omega
    refine wpAny_pure ⟨_, rfl, ?_⟩
    refine ⟨.ref s1.heap.objs.size, upd H s1.heap.objs.size (.lst (qs.map fun q => V.ref q.1)), I1.laid (o := .lst (qs.map fun q => V.ref q.1)) (t' := s1.toks) (h' := sortedHeap (s1.heap.push (seqObj "list" out.toArray 0)) s1.heap.objs.size out out2.toArray) (fun b u e => ?_) (Nat.le_refl _) ⟨lq, out2, c, ?_, hcc⟩, rfl, q qs _ pL st hn⟩
    · have hlt := Heap.lt_size e
      rw [sortedHeap_old (Nat.ne_of_lt hlt) (by rw [Heap.size_push]; exact Nat.lt_succ_of_lt hlt)]
      exact Heap.get?_push_of_some _ e
    · rw [eo]
      exact vals_refs (fun q => q.1) qs
end
end TxT
set_option Elab.async false
set_option linter.all false
set_option maxRecDepth 100000
set_option maxHeartbeats 4000000
set_option pp.maxSteps 900
namespace KT
open PySem L2 PyProof.Rows DTp TxS DKq
/-- the kinds of all stretches of a row of kinds, in a dict -/
def StrTb (f : Str → Str → Str) (ks : List Str) (kvs : List (List Key × V)) : Prop := TbG (fun p : Ix => p.1 < p.2 ∧ p.2 ≤ ks.length) keyI (fun p => V.str (btw f ks p)) kvs
theorem btw_one {f : Str → Str → Str} {ks : List Str} {i : Nat} (hi : i < ks.length) : btw f ks (i, i + 1) = ks[i] := by
  unfold btw
  rw [List.drop_take, show i + 1 - i = 1 by omega, List.drop_eq_getElem_cons hi, List.take_succ_cons, List.take_zero]
  rfl
theorem btw_more {f : Str → Str → Str} {ks : List Str} {i j : Nat} (hij : i < j) (hj : j < ks.length) : btw f ks (i, j + 1) = f (btw f ks (i, j)) ks[j] := by
  unfold btw
  have e : (ks.take (j + 1)).drop i = (ks.take j).drop i ++ [ks[j]] := by
    rw [List.take_succ_eq_append_getElem hj, List.drop_append_of_le_length (by rw [List.length_take]; omega)]
  show lp f ((ks.take (j + 1)).drop i) = _
  rw [e, lp_snoc]
  intro z
  have := congrArg List.length z
  rw [List.length_drop, List.length_take, List.length_nil] at this
  omega
theorem ix_len {S : Ix → Prop} {val : Ix → V} {kvs : List (List Key × V)} {n : Nat} (h : TbG S keyI val kvs) (k : ∀ p, S p → p.1 ≤ n ∧ p.2 ≤ n) : kvs.length ≤ (n + 1) * (n + 1) := by
  have q := h.len ((List.range (n + 1)).flatMap fun x => (List.range (n + 1)).map fun y => (x, y)) fun p hp => List.mem_flatMap.mpr ⟨p.1, List.mem_range.mpr (by have := (k p hp).1; omega), List.mem_map.mpr ⟨p.2, List.mem_range.mpr (by have := (k p hp).2; omega), rfl⟩⟩
  have e : ((List.range (n + 1)).flatMap fun x => (List.range (n + 1)).map fun y => (x, y)).length = (n + 1) * (n + 1) := by
    have : ∀ (L : List Nat), (L.flatMap fun x => (List.range (n + 1)).map fun y => (x, y)).length = L.length * (n + 1) := by
      intro L
      induction L with
      | nil => simp
      | cons a L ih => rw [List.flatMap_cons, List.length_append, ih, List.length_map, List.length_range, List.length_cons, Nat.succ_mul, Nat.add_comm]
    rw [this, List.length_range]
  omega
section
variable {P : Program} {w : World} {K : PySem.W.Frag} {mg : Str → Option Value} {base : Heap} {C S : Addr}
def spStretch (C : Addr) : Sp := fun vs H Q _ => ∃ (p r : Addr) (ws : List Str) (f : Str → Str → Str) (ks : List Str), vs = [.ref p, .ref r] ∧ KdAt C H p ws f ∧ H r = some (.lst (ks.map V.str)) ∧ ks.length ≤ 100 ∧ (∀ z ∈ ks, z ∈ ws) ∧
  ∀ q kvs H', L2.Same H H' → H q = none → H' q = some (.dT kvs) → StrTb f ks kvs → Q (.ref q) H'
abbrev nStretch : List Str := ["kinds", "row", "table", "found", "first", "kind", "last"]
theorem scStretch : FnScope nStretch ["kinds", "row"] (defScope pStretch) := ⟨rfl, rfl, rfl, by decide +kernel, rfl, by decide +kernel, by decide +kernel⟩
theorem ok_stretch {g : Addr} {fd : FuncData} (F : Fun K "stretch_kinds" "stretch_kinds" pStretch g fd) (T : KTx K mg C) (B0 : Blt mg) (M : Mee P w K mg base C 1 "table" ["self"] (spKTable C)) : FnOk P w K mg base CX0 2 g fd ["kinds", "row"] (spStretch C) := by
  refine F.ok scStretch (fun vs H Q E h => ?_) (fun cdv A outer s H vs Q E hr h => ?_)
  · obtain ⟨p, r, ws, f, ks, rfl, _⟩ := h
    rfl
  · obtain ⟨p, r, ws, f, ks, rfl, kd, hr0, few, mk, k⟩ := h
    have nd := scStretch.nd
    have kw : KW ws f := let ⟨_, _, _, q⟩ := kd; q.kw
    have ndw := kw.asc.nodup
    refine ⟨_, pss_cons (ps_set (i := 2) nd rfl (Or.inl rfl) (pe_m0 M T.cl hr (pv 0)))
      (pss_cons (ps_set (i := 3) nd rfl (Or.inl rfl) pe_dnewT)
      (pss_cons (ps_for PassesOwn.never rfl (pi_range1 rfl B0.range (pa_cons (pe_callB call_len_seq (by rfl) B0.len PySem.boot_len (pa_cons (pv 1) pa_nil)) pa_nil)) (pg_name (i := 4) nd rfl (Or.inl rfl))
        (pss_cons (ps_set (i := 5) nd rfl (Or.inl rfl) (pe_ix ix_list (pv 1) (pv 4) (fun _ _ => rfl)))
        (pss_cons (ps_dput (hu_of hr) (pv 3) (pe_tup (pa_cons (pv 4) (pa_cons (pe_op op_add (pv 4) pe_int) pa_nil))) (pv 5) rfl)
        (pss_one (ps_for PassesOwn.never rfl (pi_range2 rfl B0.range (pa_cons (pe_op op_add (pv 4) pe_int) (pa_cons (pe_op op_add (pe_callB call_len_seq (by rfl) B0.len PySem.boot_len (pa_cons (pv 1) pa_nil)) pe_int) pa_nil))) (pg_name (i := 6) nd rfl (Or.inl rfl))
          (pss_cons (ps_set (i := 5) nd rfl (Or.inl rfl) (pe_dget (hu_of hr) (pv 2) (pe_tup (pa_cons (pv 5) (pa_cons (pe_ix ix_list (pv 1) (pe_op op_sub (pv 6) pe_int) (fun _ _ => rfl)) pa_nil))) (fun _ _ => rfl)))
          (pss_one (ps_dput (hu_of hr) (pv 3) (pe_tup (pa_cons (pv 4) (pa_cons (pv 6) pa_nil))) (pv 5) rfl))))))))
      (pss_one (ps_ret (pv 3))))), ?_⟩
    obtain ⟨px, pd, pl, kin⟩ := id kd
    refine ⟨_, rfl, p, px, _, rfl, kin.ob, flds_no _ _ (by decide +kernel) (by decide +kernel), p, ws, f, rfl, kd, fun td H1 s1 htd0 htd => ?_⟩
    refine at_name (σ' := [some (.ref p), some (.ref r), some (.ref td), none, none, none, none]) rfl ?_
    refine fun du hdu0 => ?_
    have s2 := Same.new (H := H1) (o := .dT []) hdu0
    have hdu : upd H1 du (.dT []) du = _ := upd_same
    generalize upd H1 du (.dT []) = H2 at s2 hdu ⊢
    refine at_name (σ' := [some (.ref p), some (.ref r), some (.ref td), some (.ref du), none, none, none]) rfl ?_
    have hr1 := s1 _ _ hr0
    refine ⟨_, rfl, r, _, rfl, .inl (SqL.of (s2 _ _ hr1)), _, rfl, by rw [List.length_map]; omega, by rw [List.length_map]; omega, ?_⟩
    have en : (((ks.map V.str).length : Nat) : Int).toNat = ks.length := by rw [List.length_map]; omega
    rw [en]
    have tdW : TabW H1 td ws f := ⟨_, .inl htd, tabW_tb ndw⟩
    refine for_range (lo := 0) (n := ks.length) (fun i σ H' => ∃ (x4 x5 x6 : Option V) (kvs : List (List Key × V)), σ = [some (.ref p), some (.ref r), some (.ref td), some (.ref du), x4, x5, x6] ∧ L2.Same H1 H' ∧ H' du = some (.dT kvs) ∧ TbG (fun p : Ix => p.1 < i ∧ p.1 < p.2 ∧ p.2 ≤ ks.length) keyI (fun p => V.str (btw f ks p)) kvs) ?_ ?_ ?_
    · exact ⟨_, _, _, [], rfl, s2, hdu, TbG.nil.congr fun p => by simp⟩
    · rintro i σ H3 hi ⟨x4, x5, x6, kvs, rfl, s3, hdu3, tb⟩
      rw [show (0 : Int) + (i : Nat) = (i : Nat) by omega]
      refine at_name (σ' := [some (.ref p), some (.ref r), some (.ref td), some (.ref du), some (.int (i : Nat)), x5, x6]) rfl ?_
      have ix : ∀ {j : Nat} (hj : j < ks.length), (ks.map V.str)[j]? = some (.str ks[j]) := fun hj => by rw [List.getElem?_map, List.getElem?_eq_getElem hj]; rfl
      refine ⟨_, rfl, _, rfl, r, _, _, _, rfl, rfl, SqL.of (s3 _ _ hr1), atI_nat (j := i) (ix hi), ?_⟩
      rw [← btw_one (f := f) hi]
      refine at_name (σ' := [some (.ref p), some (.ref r), some (.ref td), some (.ref du), some (.int (i : Nat)), some (.str (btw f ks (i, i + 1))), x6]) rfl ?_
      refine ⟨_, rfl, _, rfl, _, rfl, _, rfl, _, _, rfl, rfl, (by show 2 ≤ sizeLine; decide), fun t1 ht10 => ?_⟩
      dsimp only
      rw [show ((i : Nat) : Int) + 1 = ((i + 1 : Nat) : Int) by omega]
      have s4 := Same.new (H := H3) (o := .tup [.int (i : Nat), .int (i + 1 : Nat)]) ht10
      have ht1 : upd H3 t1 (.tup [.int (i : Nat), .int (i + 1 : Nat)]) t1 = _ := upd_same
      generalize upd H3 t1 (.tup [.int (i : Nat), .int (i + 1 : Nat)]) = H4 at s4 ht1 ⊢
      have lkv := ix_len (n := 100) tb fun p hp => by omega
      refine ⟨du, _, rfl, DPut.t (k := keyI (i, i + 1)) (s4 _ _ hdu3) ht1 (by rw [sizeLine_eq]; omega), ?_⟩
      have tb5 := tb.put keyI_inj (i, i + 1)
      have s5 : L2.Same H1 (upd H4 du (.dT (putK kvs (keyI (i, i + 1)) (V.str (btw f ks (i, i + 1)))))) := Same.mut (s3.trans s4) hdu0
      have hdu5 : upd H4 du (.dT (putK kvs (keyI (i, i + 1)) (V.str (btw f ks (i, i + 1))))) du = _ := upd_same
      generalize upd H4 du (.dT (putK kvs (keyI (i, i + 1)) (V.str (btw f ks (i, i + 1))))) = H5 at s5 hdu5 ⊢
      generalize putK kvs (keyI (i, i + 1)) (V.str (btw f ks (i, i + 1))) = kvs2 at tb5 hdu5 ⊢
      refine ⟨_, rfl, _, _, rfl, rfl, _, rfl, r, _, rfl, .inl (SqL.of (s5 _ _ hr1)), _, _, rfl, rfl, _, _, rfl, ⟨by omega, by omega, by rw [List.length_map]; omega, by rw [List.length_map]; omega⟩, ?_⟩
      have en2 : ((((ks.map V.str).length : Nat) : Int) + 1 - (((i : Nat) : Int) + 2)).toNat = ks.length - (i + 1) := by rw [List.length_map]; omega
      rw [en2]
      refine for_range (lo := ((i : Nat) : Int) + 2) (n := ks.length - (i + 1)) (fun d σ H' => ∃ (x6 : Option V) (kvs : List (List Key × V)), σ = [some (.ref p), some (.ref r), some (.ref td), some (.ref du), some (.int (i : Nat)), some (.str (btw f ks (i, i + 1 + d))), x6] ∧ L2.Same H1 H' ∧ H' du = some (.dT kvs) ∧ TbG (fun p : Ix => (p.1 < i ∧ p.1 < p.2 ∧ p.2 ≤ ks.length) ∨ (p.1 = i ∧ i < p.2 ∧ p.2 ≤ i + 1 + d)) keyI (fun p => V.str (btw f ks p)) kvs) ?_ ?_ ?_
      · refine ⟨_, kvs2, rfl, s5, hdu5, tb5.congr fun p => ⟨fun h => ?_, fun h => ?_⟩⟩
        · rcases h with h | rfl
          · exact .inl h
          · exact .inr ⟨rfl, by show i < i + 1; omega, by show i + 1 ≤ i + 1 + 0; omega⟩
        · rcases h with h | ⟨h1, h2, h3⟩
          · exact .inl h
          · exact .inr (Prod.ext h1 (by show p.2 = i + 1; omega))
      · rintro d σ H6 hd ⟨x6, kvs3, rfl, s6, hdu6, tb6⟩
        rw [show ((i : Nat) : Int) + 2 + (d : Nat) = ((i + 1 + d + 1 : Nat) : Int) by omega]
        refine at_name (σ' := [some (.ref p), some (.ref r), some (.ref td), some (.ref du), some (.int (i : Nat)), some (.str (btw f ks (i, i + 1 + d))), some (.int (i + 1 + d + 1 : Nat))]) rfl ?_
        have hj : i + 1 + d < ks.length := by omega
        have ixd : ((i + 1 + d + 1 : Nat) : Int) - 1 = ((i + 1 + d : Nat) : Int) := by omega
        refine ⟨_, rfl, _, rfl, _, rfl, _, rfl, _, _, rfl, rfl, r, _, ((i + 1 + d + 1 : Nat) : Int) - 1, _, rfl, rfl, SqL.of (s6 _ _ hr1), by rw [ixd]; exact atI_nat (j := i + 1 + d) (ix hj), (by show 2 ≤ sizeLine; decide), fun t2 ht20 => ?_⟩
        have s7 := Same.new (H := H6) (o := .tup [.str (btw f ks (i, i + 1 + d)), .str ks[i + 1 + d]]) ht20
        have ht2 : upd H6 t2 (.tup [.str (btw f ks (i, i + 1 + d)), .str ks[i + 1 + d]]) t2 = _ := upd_same
        generalize upd H6 t2 (.tup [.str (btw f ks (i, i + 1 + d)), .str ks[i + 1 + d]]) = H7 at s7 ht2 ⊢
        have s17 : L2.Same H1 H7 := s6.trans s7
        refine ⟨td, _, rfl, (tdW.mono s17).get (btw_mem kw mk (by omega) (by omega)) (mk _ (List.getElem_mem hj)) ht2, ?_⟩
        rw [← btw_more (f := f) (by omega) hj]
        refine at_name (σ' := [some (.ref p), some (.ref r), some (.ref td), some (.ref du), some (.int (i : Nat)), some (.str (btw f ks (i, i + 1 + d + 1))), some (.int (i + 1 + d + 1 : Nat))]) rfl ?_
        refine ⟨_, rfl, _, rfl, _, rfl, _, rfl, (by show 2 ≤ sizeLine; decide), fun t3 ht30 => ?_⟩
        have s8 := Same.new (H := H7) (o := .tup [.int (i : Nat), .int (i + 1 + d + 1 : Nat)]) ht30
        have ht3 : upd H7 t3 (.tup [.int (i : Nat), .int (i + 1 + d + 1 : Nat)]) t3 = _ := upd_same
        generalize upd H7 t3 (.tup [.int (i : Nat), .int (i + 1 + d + 1 : Nat)]) = H8 at s8 ht3 ⊢
        have lkv3 := ix_len (n := 100) tb6 fun p hp => by omega
        refine ⟨du, _, rfl, DPut.t (k := keyI (i, i + 1 + d + 1)) (s8 _ _ (s7 _ _ hdu6)) ht3 (by rw [sizeLine_eq]; omega), ?_⟩
        refine ⟨_, _, rfl, Same.mut (s17.trans s8) hdu0, upd_same, (tb6.put keyI_inj (i, i + 1 + d + 1)).congr fun p => ⟨fun h => ?_, fun h => ?_⟩⟩
        · rcases h with (h | ⟨h1, h2, h3⟩) | rfl
          · exact .inl h
          · exact .inr ⟨h1, h2, by omega⟩
          · exact .inr ⟨rfl, by show i < i + 1 + d + 1; omega, by show i + 1 + d + 1 ≤ i + 1 + (d + 1); omega⟩
        · rcases h with h | ⟨h1, h2, h3⟩
          · exact .inl (.inl h)
          · by_cases e : p.2 = i + 1 + d + 1
            · exact .inr (Prod.ext h1 e)
            · exact .inl (.inr ⟨h1, h2, by omega⟩)
      · rintro σ H6 ⟨x6, kvs3, rfl, s6, hdu6, tb6⟩
        refine ⟨_, _, _, kvs3, rfl, s6, hdu6, tb6.congr fun p => ⟨fun h => ?_, fun h => ?_⟩⟩
        · rcases h with h | ⟨h1, h2, h3⟩
          · exact ⟨by omega, h.2⟩
          · exact ⟨by omega, by omega, by omega⟩
        · obtain ⟨h1, h2, h3⟩ := h
          by_cases e : p.1 = i
          · exact .inr ⟨e, by omega, by omega⟩
          · exact .inl ⟨by omega, h2, h3⟩
    · rintro σ H3 ⟨x4, x5, x6, kvs, rfl, s3, hdu3, tb⟩
      exact ⟨_, rfl, k du kvs H3 (s1.trans s3) (s1.free hdu0) hdu3 (tb.congr fun p => ⟨fun h => h.2, fun h => ⟨by omega, h⟩⟩)⟩
end
end KT
set_option Elab.async false
set_option linter.all false
set_option maxRecDepth 100000
set_option maxHeartbeats 2000000
set_option pp.maxSteps 900
namespace KT
open PySem L2 PyProof.Rows DTp TxS
def PairsT (H : Hp) (ts : List Addr) (ps : List Ix) : Prop := Paired (fun t (p : Ix) => H t = some (.tup [.int (p.1 : Nat), .int (p.2 : Nat)])) ts ps
theorem PairsT.mono {H H' : Hp} {ts : List Addr} {ps : List Ix} (s : L2.Same H H') (h : PairsT H ts ps) : PairsT H' ts ps := Paired.mapP h fun _ _ e => s _ _ e
theorem PairsT.snoc {H : Hp} {ts : List Addr} {ps : List Ix} {t : Addr} {p : Ix} (h : PairsT H ts ps) (e : H t = some (.tup [.int (p.1 : Nat), .int (p.2 : Nat)])) : PairsT H (ts ++ [t]) (ps ++ [p]) := paired_append h (.cons e .nil)
theorem PairsT.upd {H : Hp} {ts : List Addr} {ps : List Ix} {D : Addr} {ys : List V} {o : HO} (h : PairsT H ts ps) (hD : H D = some (.lst ys)) : PairsT (upd H D o) ts ps := Paired.mapP h fun t p e => (upd_ne (ne_of e hD (by intro z; cases z))).trans e
/-- a stretch whose kind may be done twice -/
def TwS (f : Str → Str → Str) (tw ks : List Str) (n : Nat) (p : Ix) : Prop := p.1 < p.2 ∧ p.2 ≤ n ∧ btw f ks p ∈ tw
/-- .. that is said once more behind itself -/
def HvS (f : Str → Str → Str) (tw ks row : List Str) (p : Ix) : Prop := TwS f tw ks row.length p ∧ (row.take p.2).drop p.1 = (row.take (p.2 + p.2 - p.1)).drop p.2
def spTwS (S C : Addr) : Sp := fun vs H Q _ => ∃ (A : SA) (ws : List Str) (f : Str → Str → Str) (dl : List (Str × Str)) (tw : List Str) (r : Addr) (row : List Str), vs = [.ref A.q, .ref r] ∧ StIn S C H A ws f dl tw ∧ LogAt dl H r row ∧ row.length ≤ 30 ∧
  ∀ (q : Addr) (ts : List Addr) (ps : List Ix) H', L2.Same H H' → H q = none → H' q = some (.lst (ts.map V.ref)) → PairsT H' ts ps → ps.Nodup → ps.length ≤ 1000 → (∀ p, p ∈ ps ↔ TwS f tw (kds dl row) row.length p) → Q (.ref q) H'
section
variable {P : Program} {w : World} {K : PySem.W.Frag} {mg : Str → Option Value} {base : Heap} {C S G : Addr}
abbrev nTwS : List Str := ["setting", "log", "twice", "kinds", "stretch"]
theorem scTwS : FnScope nTwS ["setting", "log"] (defScope sTwS) := ⟨rfl, rfl, rfl, by decide +kernel, rfl, by decide +kernel, by decide +kernel⟩
theorem ok_twS {g : Addr} {fd : FuncData} (F : Fun K "_twice_stretches" "_twice_stretches" sTwS g fd) (TS : STx K mg S) (MT : Mee P w K mg base S 1 "twice" ["self"] (spSTwice S C)) (MK : Mee P w K mg base S 1 "kinds" ["self"] (spSKinds S C)) (MD : Cee P w K mg base 2 "kinds_of_deeds" ["setting", "log"] (spKods S C)) (MS : Cee P w K mg base 2 "stretch_kinds" ["kinds", "row"] (spStretch C)) : FnOk P w K mg base CX0 3 g fd ["setting", "log"] (spTwS S C) := by
  refine F.ok scTwS (fun vs H Q E h => ?_) (fun cdv A outer s H vs Q E hr h => ?_)
  · obtain ⟨A, ws, f, dl, tw, r, row, rfl, _⟩ := h
    rfl
  · obtain ⟨A0, ws, f, dl, tw, r, row, rfl, st, lg, l30, k⟩ := h
    have nd := scTwS.nd
    refine ⟨_, pss_cons (ps_set (i := 2) nd rfl (Or.inr rfl) (pe_m0 MT TS.cl hr (pv 0)))
      (pss_cons (ps_set (i := 3) nd rfl (Or.inr rfl) (pe_c MS hr rfl (pa_cons (pe_m0 MK TS.cl hr (pv 0)) (pa_cons (pe_c MD hr rfl (pa_cons (pv 0) (pa_cons (pv 1) (pa_nil)))) (pa_nil)))))
      (pss_one (ps_ret (pe_lock (pe_lc (own := [("stretch", 4)]) (g := gName 4) (tt := tTest (tOp (rIn K false) (tDGet (tVar 3) (tVar 4)) (tVar 2))) (te := tVar 4) rfl nd (pi_keys (pv 3)) (blkOk_by (own := [("stretch", 4)]) (N := nTwS) (sc := defScope sTwS) (by decide +kernel)) (fun _ _ _ _ _ => pg_name (i := 4) nd rfl (Or.inl rfl)) (fun _ _ _ _ _ => pts_one (pt_cmpR op_in_seq (pe_dget (hu_of hr) (pv 3) (pv 4) (fun _ _ => rfl)) (pv 2) (by rfl))) (fun _ _ _ _ _ => pv 4)))))), ?_⟩
    have kw := st.kin.kw
    obtain ⟨ks, ek⟩ : ∃ ks, ks = kds dl row := ⟨_, rfl⟩
    have lk : ks.length = row.length := by rw [ek, kds_len]
    have mk : ∀ z ∈ ks, z ∈ ws := by rw [ek]; exact kds_mem st.ok lg.mem
    rw [← ek, ← lk] at k
    refine ⟨_, rfl, A0.q, A0.dx, _, rfl, st.ob, sflds_no _ _ _ (by decide +kernel) (by decide +kernel) (by decide +kernel), A0, ws, f, dl, tw, rfl, st, fun t H1 s1 ht0 ht => ?_⟩
    refine at_name (σ' := [some (.ref A0.q), some (.ref r), some (.ref t), none, none]) rfl ?_
    have st1 := st.mono s1
    refine ⟨_, rfl, A0.q, A0.dx, _, rfl, st1.ob, sflds_no _ _ _ (by decide +kernel) (by decide +kernel) (by decide +kernel), A0, ws, f, dl, tw, rfl, st1, ?_⟩
    refine ⟨_, rfl, _, rfl, A0, ws, f, dl, tw, r, row, rfl, st1, lg.mono s1, fun rk H2 s2 hrk0 hrk => ?_⟩
    rw [← ek] at hrk
    refine ⟨A0.p, rk, ws, f, ks, rfl, (st1.mono s2).kdAt, hrk, by omega, mk, fun du kvs H3 s3 hdu0 hdu tb => ?_⟩
    refine at_name (σ' := [some (.ref A0.q), some (.ref r), some (.ref t), some (.ref du), none]) rfl ?_
    have s02 : L2.Same H H2 := s1.trans s2
    have s03 : L2.Same H H3 := s02.trans s3
    have ht3 := s3 _ _ (s2 _ _ ht)
    have lkv := ix_len (n := 30) tb fun p hp => by omega
    obtain ⟨is, e1, ndi, mis⟩ := tb.idxs keyI_inj
    have li : is.length = kvs.length := by rw [e1, List.length_map]
    refine ⟨du, _, hdu, trivial, fun od => ?_⟩
    have hG : upd H3 du (.frz od (.dT kvs)) du = some (.frz od (.dT kvs)) := upd_same
    refine ⟨_, rfl, du, od, rfl, .inr ⟨kvs, hG, fun D hD => ?_⟩⟩
    have nDu : D ≠ du := fun e => by rw [e, upd_same] at hD; cases hD
    have ntd : t ≠ du := ne_of ht3 hdu (by intro z; cases z)
    have ht4 := (upd_ne (H := H3) (o := .frz od (.dT kvs)) ntd).trans ht3
    have hdu' : H du = none := s02.free hdu0
    have s04 : L2.Same H (upd H3 du (.frz od (.dT kvs))) := Same.mut s03 hdu'
    have hD0 : H D = none := none_back s04 hD
    have hD3 : H3 D = none := (upd_ne nDu).symm.trans hD
    generalize eG : upd H3 du (.frz od (.dT kvs)) = H4 at hG ht4 hD s04 ⊢
    refine lc_it walk_keysT (fun i H' => L2.Same H4 H' ∧ ∃ ts : List Addr, H' D = some (.lst (ts.map V.ref)) ∧ PairsT H' ts ((is.take i).filter fun p => decide (btw f ks p ∈ tw))) ?_ ?_ ?_ ?_
    · exact ⟨Same.new hD, [], upd_same, .nil⟩
    · rintro i H' _ ⟨s5, _⟩
      exact s5 _ _ hG
    · rintro n v H0 H5 hn ⟨s5, ts, hD5, pr5⟩ ⟨rfl, kk, vv, q, hk, rfl, hq⟩
      have hn' : n < is.length := by omega
      have ekk : kvs[n]? = some (keyI is[n], V.str (btw f ks is[n])) := by
        have e3 := congrArg (fun l : List (List Key × V) => l[n]?) e1
        simp only [List.getElem?_map, List.getElem?_eq_getElem hn'] at e3
        exact e3
      rw [hk] at ekk
      have ekk := Option.some.inj ekk
      have hxy := (mis _).mpr (List.getElem_mem hn')
      have en : is[n]? = some is[n] := List.getElem?_eq_getElem hn'
      obtain ⟨⟨i, j⟩, exy⟩ : ∃ a, a = is[n] := ⟨_, rfl⟩
      rw [← exy] at ekk hxy en
      obtain ⟨rfl, rfl⟩ : kk = keyI (i, j) ∧ vv = V.str (btw f ks (i, j)) := ⟨congrArg Prod.fst ekk, congrArg Prod.snd ekk⟩
      obtain ⟨hij, hj⟩ : i < j ∧ j ≤ ks.length := hxy
      have hq' : H5 q = some (.tup [V.int (i : Nat), V.int (j : Nat)]) := hq
      refine at_name (σ' := [some (.ref A0.q), some (.ref r), some (.ref t), some (.ref du), some (.ref q)]) rfl ⟨rfl, ?_⟩
      have dg : DGet H5 du (.ref q) (some (.str (btw f ks (i, j)))) := .inr ⟨kvs, keyI (i, j), _, .inr ⟨od, s5 _ _ hG⟩, rfl, hq', (tb.get (i := (i, j)) ⟨hij, hj⟩).symm⟩
      refine ⟨_, rfl, _, rfl, du, _, rfl, dg, _, rfl, t, _, rfl, .inl (SqL.of (s5 _ _ ht4)), rfl, flat_strs _, _, rfl, ?_⟩
      rw [if_neg Bool.false_ne_true, inV_strs]
      have lts : ts.length ≤ 961 := by
        have q1 := Paired.length pr5
        have q2 := List.length_filter_le (fun p => decide (btw f ks p ∈ tw)) (is.take n)
        rw [List.length_take] at q2
        omega
      rw [take_next' en, List.filter_append]
      refine ite2 (fun hz => ?_) (fun hz => ?_)
      · refine ⟨_, rfl, _, hD5, by rw [List.length_map, sizeLine_eq]; omega, fun b o e => ?_, ts ++ [q], ?_, ?_⟩
        · rw [upd_ne (ne_of_none e hD)]
          exact s5 _ _ e
        · rw [upd_same, List.map_append]; rfl
        · rw [List.filter_cons_of_pos (p := fun p => decide (btw f ks p ∈ tw)) hz, List.filter_nil]
          exact (pr5.snoc (p := (i, j)) hq').upd hD5
      · rw [List.filter_cons_of_neg (p := fun p => decide (btw f ks p ∈ tw)) hz, List.filter_nil, List.append_nil]
        exact ⟨s5, ts, hD5, pr5⟩
    · rintro H5 ⟨s5, ts, hD5, pr5⟩
      rw [← li, List.take_length] at pr5
      have hdu5 := s5 _ _ hG
      refine ⟨hdu5, ?_⟩
      have s06 : L2.Same H (upd H5 du (.dT kvs)) := Same.mut (s04.trans s5) hdu'
      refine k D ts _ _ s06 hD0 ((upd_ne nDu).trans hD5) (Paired.mapP pr5 fun x p e => (upd_ne (ne_of e hdu5 (by intro z; cases z))).trans e) (ndi.filter _) (Nat.le_trans (List.length_filter_le _ _) (by omega)) fun p => ?_
      rw [List.mem_filter, ← mis, decide_eq_true_eq]
      exact ⟨fun h => ⟨h.1.1, h.1.2, h.2⟩, fun h => ⟨⟨h.1, h.2.1⟩, h.2.2⟩⟩
end
end KT
set_option Elab.async false
set_option linter.all false
set_option maxRecDepth 100000
set_option maxHeartbeats 2000000
set_option pp.maxSteps 900
namespace KT
open PySem L2 PyProof.Rows DTp TxS
def rTupS (K : PySem.W.Frag) : List V → Hp → VK → Prop := fun xs H Q => ∃ p ys, xs = [.ref p] ∧ ((SqL K H p ys ∧ ∀ l, H l = none → Q (.ref l) (upd H l (.tup ys))) ∨ (SqT K H p ys ∧ Q (.ref p) H))
open TxT in
def spDiff : Sp := fun vs H Q _ => ∃ (l : Addr) (zs : List (Addr × List Str)), vs = [.ref l] ∧ TLs H l zs ∧ zs.length ≤ 63 ∧ (∀ z ∈ zs, z.2 ≠ []) ∧
  ∀ (q : Addr) (ys : List (Addr × List Str)) H', L2.Same H H' → H q = none → TLs H' q ys → (∀ y ∈ ys, H y.1 = none) → (ys.map (·.2)).Pairwise ltR → (∀ x, x ∈ ys.map (·.2) ↔ x ∈ zs.map (·.2)) → Q (.ref q) H'
section
variable {P : Program} {w : World} {K : PySem.W.Frag} {mg : Str → Option Value} {base : Heap} {C S G : Addr}
abbrev nDiff : List Str := ["logs", "log"]
theorem scDiff : FnScope nDiff ["logs"] (defScope sDiff) := ⟨rfl, rfl, rfl, by decide +kernel, rfl, by decide +kernel, by decide +kernel⟩
theorem ok_diff {g : Addr} {fd : FuncData} (F : Fun K "_different" "_different" sDiff g fd) (Z : Blp mg) : FnOk P w K mg base CX0 1 g fd ["logs"] spDiff := by
  refine F.ok scDiff (fun vs H Q E h => ?_) (fun cdv A outer s H vs Q E hr h => ?_)
  · obtain ⟨l, zs, rfl, _⟩ := h
    rfl
  · obtain ⟨l, zs, rfl, tl, few, ne, k⟩ := h
    have nd := scDiff.nd
    refine ⟨_, pss_one (ps_ret (pe_lc (own := [("log", 1)]) (g := gName 1) (tt := tYes) (te := tCB (Evl.rListS K) (tCons (tVar 1) tNil)) rfl nd (pi_list (pe_callB (TxT.cr_sortTp rfl (hu65' hr)) (by rfl) Z.sorted (by decide +kernel) (pa_cons (TxT.pe_scT (own := [("log", 1)]) (g := gName 1) (tt := tYes) (te := tCB (rTupS K) (tCons (tVar 1) tNil)) rfl nd (pi_list (pv 0)) (blkOk_by (own := [("log", 1)]) (N := nDiff) (sc := defScope sDiff) (by decide +kernel)) (fun _ _ _ _ _ => pg_name (i := 1) nd rfl (Or.inl rfl)) (fun _ _ _ _ _ => pts_nil) GC.cl0 trivial (fun _ _ _ _ _ => pe_callTy call_tuple_of (by rfl) Z.tuple (by decide +kernel) (pa_cons (pv 1) (pa_nil))) (hu65 hr)) (pa_nil)))) (blkOk_by (own := [("log", 1)]) (N := nDiff) (sc := defScope sDiff) (by decide +kernel)) (fun _ _ _ _ _ => pg_name (i := 1) nd rfl (Or.inl rfl)) (fun _ _ _ _ _ => pts_nil) (fun _ _ _ _ _ => pe_callTy call_list_of (by rfl) Z.list (by decide +kernel) (pa_cons (pv 1) (pa_nil))))), ?_⟩
    refine ⟨_, rfl, l, rfl, ⟨_, SqL.of tl.at'⟩, fun D0 hD00 => ?_⟩
    refine GC.lp_it (walk_LI (K := K) (a := l) zs fun z => V.ref z.1) (fun i H' => ∃ L : List (Addr × List Str), L2.Same H H' ∧ H' D0 = some (TxT.TpO P w D0 L) ∧ (∀ p ∈ L, H' p.1 = some (.tup (p.2.map V.str))) ∧ L.length ≤ i ∧ ∀ x, x ∈ L.map (·.2) ↔ x ∈ (zs.take i).map (·.2)) ?_ ?_ ?_ ?_
    · exact ⟨[], Same.new hD00, upd_same, (fun p hp => by cases hp), Nat.le_refl _, fun x => by simp⟩
    · rintro i H' _ ⟨L, s1, _⟩
      exact SqL.of (s1 _ _ tl.at')
    · rintro n v H0 H1 hn ⟨L, s1, hD1, tu, lL, mL⟩ ⟨rfl, z, ez, rfl⟩
      have hz := s1 _ _ (tl.all z (List.mem_of_getElem? ez))
      have hn' : n < zs.length := (List.getElem?_eq_some_iff.mp ez).1
      dsimp only
      refine at_name (σ' := [some (.ref l), some (.ref z.1)]) rfl ⟨rfl, ?_⟩
      refine yes_if ?_
      refine ⟨_, rfl, z.1, _, rfl, .inl ⟨SqL.of hz, fun b b0 => ?_⟩⟩
      have s2 := Same.new (H := H1) (o := .tup (z.2.map V.str)) b0
      have hb : upd H1 b (.tup (z.2.map V.str)) b = _ := upd_same
      generalize upd H1 b (.tup (z.2.map V.str)) = H2 at s2 hb ⊢
      have hD2 := s2 _ _ hD1
      have tu2 : ∀ p ∈ L, H2 p.1 = some (.tup (p.2.map V.str)) := fun p hp => s2 _ _ (tu p hp)
      refine ⟨b, z.2, L, rfl, hb, hD2, tu2, by omega, fun L' c1 c2 => ?_⟩
      have nt : ∀ {c : Addr} {ys : List V}, H2 c = some (.tup ys) → c ≠ D0 := fun e z => by rw [z, hD2] at e; cases e
      refine ⟨L', fun c o e => ?_, upd_same, fun p hp => ?_, ?_, fun x => ?_⟩
      · rw [upd_ne (ne_of_none e hD00)]
        exact s2 _ _ (s1 _ _ e)
      · by_cases c : z.2 ∈ L.map (·.2)
        · rw [c1 c] at hp
          exact (upd_ne (nt (tu2 p hp))).trans (tu2 p hp)
        · rcases List.mem_cons.mp ((c2 c).mem_iff.mp hp) with rfl | hp
          · exact (upd_ne (nt hb)).trans hb
          · exact (upd_ne (nt (tu2 p hp))).trans (tu2 p hp)
      · by_cases c : z.2 ∈ L.map (·.2)
        · rw [c1 c]; omega
        · rw [(c2 c).length_eq, List.length_cons]; omega
      · rw [take_next' ez, List.map_append, List.mem_append, ← mL]
        by_cases c : z.2 ∈ L.map (·.2)
        · rw [c1 c]
          exact ⟨.inl, fun h => h.elim id fun h => by rw [List.mem_singleton.mp h]; exact c⟩
        · rw [((c2 c).map (·.2)).mem_iff, List.map_cons, List.mem_cons]
          exact ⟨fun h => h.elim (fun e => .inr (List.mem_singleton.mpr e)) .inl, fun h => h.elim .inr fun e => .inl (List.mem_singleton.mp e)⟩
    · rintro H1 ⟨L, s1, hD1, tu, lL, mL⟩
      rw [List.take_length] at mL
      refine ⟨D0, L, rfl, hD1, tu, fun p hp => ?_, fun qs p pm so p0 => ?_⟩
      · obtain ⟨z, hz, e⟩ := List.mem_map.mp ((mL p.2).mp (List.mem_map.mpr ⟨p, hp, rfl⟩))
        rw [← e]
        exact ne z hz
      have hq : ∀ q ∈ qs, H1 q.1 = some (.tup (q.2.map V.str)) := fun q hq => tu q (pm.mem_iff.mp hq)
      have t1 := Same.new (H := H1) (o := .lst (qs.map fun q => V.ref q.1)) p0
      have hp1 : upd H1 p (.lst (qs.map fun q => V.ref q.1)) p = _ := upd_same
      generalize upd H1 p (.lst (qs.map fun q => V.ref q.1)) = G1 at t1 hp1 ⊢
      have lq := pm.length_eq
      refine ⟨p, rfl, ⟨_, SqL.of hp1⟩, fun D hD => ?_⟩
      refine lcQ (walk_LI qs fun q => V.ref q.1) rel_same (fun _ => true) (fun _ _ => True) (fun H' q v => ∃ a, v = .ref a ∧ a ≠ D ∧ H' a = some (.lst (q.2.map V.str)) ∧ H a = none) (by omega) hD (fun s e => s _ _ e)
        (fun s ⟨a, e1, e2, e3, e4⟩ => ⟨a, e1, e2, s _ _ e3, e4⟩) (fun ⟨a, e1, e2, e3, e4⟩ => ⟨a, e1, e2, (upd_ne e2).trans e3, e4⟩) (fun h => h) trivial (fun H' s => SqL.of (s _ _ hp1)) (fun j z H4 Y N ej s4 _ hDo kY kN => ?_) (fun Lz H4 s4 _ eLz hD4 fz => ?_)
      · refine at_name (σ' := [some (.ref l), some (.ref z.1)]) rfl ⟨rfl, yes_if ?_⟩
        have hz := s4 _ _ (t1 _ _ (hq z (List.mem_of_getElem? ej)))
        refine ⟨_, rfl, z.1, _, rfl, .inr (SqT.of hz), fun a a0 => kY rfl _ _ (Same.new a0) trivial ⟨a, rfl, fun e => ?_, upd_same, none_back (s1.trans (t1.trans s4)) a0⟩⟩
        obtain ⟨o, ho⟩ := hDo
        rw [e, ho] at a0; cases a0
      · obtain ⟨ys, z1, z2, z3, z4⟩ := tl_new fz
        have z2 : ys.map (·.2) = qs.map (·.2) := by
          rw [z2]
          have : Lz.map (fun q => q.1.2) = (Lz.map (·.1)).map (·.2) := by rw [List.map_map]; rfl
          rw [this, eLz, List.filter_eq_self.mpr fun _ _ => rfl]
        rw [z1] at hD4
        refine k D ys H4 (s1.trans (t1.trans s4)) (none_back (s1.trans t1) hD) ⟨hD4, z3⟩ z4 (by rw [z2]; exact so) fun x => ?_
        rw [z2, (pm.map (·.2)).mem_iff, mL]
end
end KT
set_option Elab.async false
set_option linter.all false
set_option maxRecDepth 100000
set_option maxHeartbeats 2000000
set_option pp.maxSteps 900
namespace KT
open PySem L2 PyProof.Rows DTp TxS
theorem tl_pairs {H0 H : Hp} {D : Addr} {g : Ix → List Str} {L : List ((Addr × Ix) × V)} (h : ∀ q ∈ L, ∃ a, q.2 = V.ref a ∧ a ≠ D ∧ H a = some (.lst ((g q.1.2).map V.str)) ∧ H0 a = none) :
    ∃ zs : List (Addr × List Str), L.map (·.2) = zs.map (fun z => V.ref z.1) ∧ zs.map (·.2) = L.map (fun q => g q.1.2) ∧ (∀ z ∈ zs, H z.1 = some (.lst (z.2.map V.str))) ∧ ∀ z ∈ zs, H0 z.1 = none := by
  obtain ⟨zs, e1, e2, e3, e4⟩ := tl_new (H0 := H0) (H := H) (D := D) (L := L.map fun q => ((q.1.1, g q.1.2), q.2)) (fun q hq => by
    obtain ⟨x, hx, rfl⟩ := List.mem_map.mp hq
    exact h x hx)
  rw [List.map_map] at e1 e2
  exact ⟨zs, e1, e2, e3, e4⟩
def tri : List Ix := (List.range 11).flatMap fun j => (List.range j).map fun i => (i, j)
def tri2 : List Ix := (List.range 15).flatMap fun j => ((List.range j).filter fun i => decide (j + j ≤ 14 + i)).map fun i => (i, j)
theorem tri_len : tri.length = 55 := by decide +kernel
theorem tri2_len : tri2.length = 49 := by decide +kernel
theorem few_tw {ps : List Ix} (n : ps.Nodup) (h : ∀ p ∈ ps, p.1 < p.2 ∧ p.2 ≤ 10) : ps.length ≤ 55 := by
  rw [← tri_len]
  refine List.Nodup.length_le_of_subset n fun p hp => ?_
  obtain ⟨h1, h2⟩ := h p hp
  exact List.mem_flatMap.mpr ⟨p.2, List.mem_range.mpr (by omega), List.mem_map.mpr ⟨p.1, List.mem_range.mpr h1, rfl⟩⟩
theorem few_hv {ps : List Ix} (n : ps.Nodup) (h : ∀ p ∈ ps, p.1 < p.2 ∧ p.2 + p.2 ≤ 14 + p.1) : ps.length ≤ 49 := by
  rw [← tri2_len]
  refine List.Nodup.length_le_of_subset n fun p hp => ?_
  obtain ⟨h1, h2⟩ := h p hp
  exact List.mem_flatMap.mpr ⟨p.2, List.mem_range.mpr (by omega), List.mem_map.mpr ⟨p.1, List.mem_filter.mpr ⟨List.mem_range.mpr h1, decide_eq_true h2⟩, rfl⟩⟩
theorem HvS.le {f : Str → Str → Str} {tw ks row : List Str} {p : Ix} (h : HvS f tw ks row p) : p.2 + p.2 - p.1 ≤ row.length := by
  obtain ⟨⟨h1, h2, _⟩, e⟩ := h
  have e := congrArg List.length e
  rw [List.length_drop, List.length_drop, List.length_take, List.length_take] at e
  omega
def dbP (row : List Str) (p : Ix) : List Str := row.take p.2 ++ row.drop p.1
def hvP (row : List Str) (p : Ix) : List Str := row.take p.1 ++ row.drop p.2
theorem dbP_at {row : List Str} {p : Ix} (h1 : p.1 < p.2) (h2 : p.2 ≤ row.length) : dbP row p = dbAt row p.1 p.2 := by
  unfold dbP dbAt
  have e2 : (row.take p.2).drop p.1 ++ row.drop p.2 = row.drop p.1 := by
    have := List.take_append_drop p.2 row
    rw [← List.drop_append_of_le_length (by rw [List.length_take]; omega), this]
  rw [List.append_assoc, e2]
theorem Dbl.iff {f : Str → Str → Str} {tw ks row x : List Str} : Dbl f tw ks row x ↔ ∃ p, TwS f tw ks row.length p ∧ x = dbP row p := by
  constructor
  · rintro ⟨a, b, h1, h2, h3, rfl⟩
    exact ⟨(a, b), ⟨h1, h2, h3⟩, (dbP_at (p := (a, b)) h1 h2).symm⟩
  · rintro ⟨p, ⟨h1, h2, h3⟩, rfl⟩
    exact ⟨p.1, p.2, h1, h2, h3, dbP_at h1 h2⟩
theorem Hlv.iff {f : Str → Str → Str} {tw ks row x : List Str} : Hlv f tw ks row x ↔ ∃ p, HvS f tw ks row p ∧ x = hvP row p := by
  constructor
  · rintro ⟨a, n, h1, h2, h3, h4, rfl⟩
    refine ⟨(a, a + n), ⟨⟨by show a < a + n; omega, by show a + n ≤ _; omega, h4⟩, ?_⟩, rfl⟩
    show (row.take (a + n)).drop a = (row.take (a + n + (a + n) - a)).drop (a + n)
    rw [show a + n + (a + n) - a = a + 2 * n by omega]
    exact h3
  · rintro ⟨p, h, rfl⟩
    have le := h.le
    obtain ⟨⟨h1, h2, h3⟩, e⟩ := h
    refine ⟨p.1, p.2 - p.1, by omega, by omega, ?_, ?_, ?_⟩
    · rw [show p.1 + (p.2 - p.1) = p.2 by omega, show p.1 + 2 * (p.2 - p.1) = p.2 + p.2 - p.1 by omega]
      exact e
    · rw [show p.1 + (p.2 - p.1) = p.2 by omega]
      exact h3
    · unfold hvAt hvP
      rw [show p.1 + (p.2 - p.1) = p.2 by omega]
theorem srt_few {ys : List (Addr × List Str)} {L : List (List Str)} {n : Nat} (so : (ys.map (·.2)).Pairwise ltR) (h : ∀ x ∈ ys.map (·.2), x ∈ L) (l : L.length ≤ n) : ys.length ≤ n := by
  have nd : (ys.map (·.2)).Nodup := List.Pairwise.imp (fun {a b} (h : ltR a b) => fun e => by rw [e] at h; exact ltR_irr _ h) so
  have := List.Nodup.length_le_of_subset nd h
  rw [List.length_map] at this
  omega
theorem prs_zip {H : Hp} {ts : List Addr} {ps : List Ix} (h : PairsT H ts ps) : (ts.zip ps).map (fun z => V.ref z.1) = ts.map V.ref ∧ (ts.zip ps).map (·.2) = ps ∧ (ts.zip ps).length = ps.length ∧ ∀ z ∈ ts.zip ps, H z.1 = some (.tup [.int (z.2.1 : Nat), .int (z.2.2 : Nat)]) := by
  induction h with
  | nil => exact ⟨rfl, rfl, rfl, fun z h => by cases h⟩
  | cons r _ ih =>
    obtain ⟨a, b, c, d⟩ := ih
    refine ⟨by rw [List.zip_cons_cons, List.map_cons, List.map_cons, a], by rw [List.zip_cons_cons, List.map_cons, b], by rw [List.zip_cons_cons, List.length_cons, List.length_cons, c], fun z hz => ?_⟩
    rcases List.mem_cons.mp hz with rfl | hz
    · exact r
    · exact d z hz
theorem cut_any (xs : List V) (j e : Nat) (h1 : j ≤ e) (h2 : j ≤ xs.length) : cutV xs (some (j : Int)) (some (e : Int)) = (xs.take e).drop j := by
  by_cases c : e ≤ xs.length
  · exact cut_mid _ _ _ h1 c
  · unfold cutV
    have e1 : HT.sIx xs.length 0 (some (j : Int)) = j := by rw [HT.sIx_nat]; omega
    have e2 : HT.sIx xs.length xs.length (some (e : Int)) = xs.length := by rw [HT.sIx_nat]; omega
    rw [e1, e2, List.take_of_length_le (by rw [List.length_drop]; omega), List.take_of_length_le (l := xs) (by omega)]
def spDbls (S C : Addr) : Sp := fun vs H Q _ => ∃ (A : SA) (ws : List Str) (f : Str → Str → Str) (dl : List (Str × Str)) (tw : List Str) (r : Addr) (row : List Str), vs = [.ref A.q, .ref r] ∧ StIn S C H A ws f dl tw ∧ LogAt dl H r row ∧ row.length ≤ 10 ∧
  ∀ (q : Addr) (zs : List (Addr × List Str)) H', L2.Same H H' → H q = none → TLs H' q zs → (∀ z ∈ zs, H z.1 = none) → (zs.map (·.2)).Pairwise ltR → zs.length ≤ 63 → (∀ x, x ∈ zs.map (·.2) ↔ Dbl f tw (kds dl row) row x) → Q (.ref q) H'
def spHvs (S C : Addr) : Sp := fun vs H Q _ => ∃ (A : SA) (ws : List Str) (f : Str → Str → Str) (dl : List (Str × Str)) (tw : List Str) (r : Addr) (row : List Str), vs = [.ref A.q, .ref r] ∧ StIn S C H A ws f dl tw ∧ LogAt dl H r row ∧ row.length ≤ 14 ∧
  ∀ (q : Addr) (zs : List (Addr × List Str)) H', L2.Same H H' → H q = none → TLs H' q zs → (∀ z ∈ zs, H z.1 = none) → (zs.map (·.2)).Pairwise ltR → zs.length ≤ 63 → (∀ x, x ∈ zs.map (·.2) ↔ Hlv f tw (kds dl row) row x) → Q (.ref q) H'
def spHalf (S C : Addr) : Sp := fun vs H Q _ => ∃ (A : SA) (ws : List Str) (f : Str → Str → Str) (dl : List (Str × Str)) (tw : List Str) (r : Addr) (row : List Str), vs = [.ref A.q, .ref r] ∧ StIn S C H A ws f dl tw ∧ LogAt dl H r row ∧ row.length ≤ 30 ∧
  ∀ (q : Addr) (ts : List Addr) (ps : List Ix) H', L2.Same H H' → H q = none → H' q = some (.lst (ts.map V.ref)) → PairsT H' ts ps → ps.Nodup → ps.length ≤ 1000 → (∀ p, p ∈ ps ↔ HvS f tw (kds dl row) row p) → Q (.ref q) H'
section
variable {P : Program} {w : World} {K : PySem.W.Frag} {mg : Str → Option Value} {base : Heap} {C S G : Addr}
abbrev nDbls : List Str := ["setting", "log", "first", "last"]
theorem scDbls : FnScope nDbls ["setting", "log"] (defScope sDbls) := ⟨rfl, rfl, rfl, by decide +kernel, rfl, by decide +kernel, by decide +kernel⟩
theorem ok_dbls {g : Addr} {fd : FuncData} (F : Fun K "doublings" "doublings" sDbls g fd) (MC : Cee P w K mg base 1 "check_setting" ["setting"] (spCheckSet S C)) (ML : Cee P w K mg base 3 "check_log" ["setting", "log"] (spCheckLog S C)) (MD : Cee P w K mg base 1 "_different" ["logs"] spDiff) (MT : Cee P w K mg base 3 "_twice_stretches" ["setting", "log"] (spTwS S C)) : FnOk P w K mg base CX0 4 g fd ["setting", "log"] (spDbls S C) := by
  refine F.ok scDbls (fun vs H Q E h => ?_) (fun cdv A outer s H vs Q E hr h => ?_)
  · obtain ⟨A, ws, f, dl, tw, r, row, rfl, _⟩ := h
    rfl
  · obtain ⟨A0, ws, f, dl, tw, r, row, rfl, st, lg, l10, k⟩ := h
    have nd := scDbls.nd
    refine ⟨_, pss_cons (ps_expr (pe_c MC hr rfl (pa_cons (pv 0) (pa_nil))))
      (pss_cons (ps_expr (pe_c ML hr rfl (pa_cons (pv 0) (pa_cons (pv 1) (pa_nil)))))
      (pss_one (ps_ret (pe_c MD hr rfl (pa_cons (pe_lc (own := [("first", 2), ("last", 3)]) (g := gXY K 2 3) (tt := tYes) (te := tOp rCat (tSl (rSlL K) (tVar 1) tNoPart (tPart (tVar 3))) (tSl (rSlL K) (tVar 1) (tPart (tVar 2)) tNoPart)) rfl nd (pi_list (pe_c MT hr rfl (pa_cons (pv 0) (pa_cons (pv 1) (pa_nil))))) (blkOk_by (own := [("first", 2), ("last", 3)]) (N := nDbls) (sc := defScope sDbls) (by decide +kernel)) (fun _ _ _ _ _ => pg_tup rfl (pgs_cons (pg_name (i := 2) nd rfl (Or.inl rfl)) (pgs_cons (pg_name (i := 3) nd rfl (Or.inl rfl)) (pgs_nil)))) (fun _ _ _ _ _ => pts_nil) (fun _ _ _ _ _ => pe_op op_cat (pe_slice sl_list (pv 1) (po_none) (po_some (pv 3))) (pe_slice sl_list (pv 1) (po_some (pv 2)) (po_none)))) (pa_nil)))))), ?_⟩
    refine ⟨_, rfl, A0, ws, f, dl, tw, rfl, st, ?_⟩
    refine ⟨_, rfl, _, rfl, A0, ws, f, dl, tw, r, row, rfl, st, lg, fun H1 s1 => ?_⟩
    have st1 := st.mono s1
    refine ⟨_, rfl, _, rfl, A0, ws, f, dl, tw, r, row, rfl, st1, lg.mono s1, by omega, fun q0 ts ps H2 s2 hq00 hq0 pr nps lps mps => ?_⟩
    obtain ⟨z1, z2, z3, z4⟩ := prs_zip pr
    have s02 : L2.Same H H2 := s1.trans s2
    have ll : ((row.map V.str).length : Nat) = row.length := List.length_map _
    refine ⟨q0, rfl, ⟨_, SqL.of hq0⟩, fun D hD => ?_⟩
    refine lcQ (walk_LI (K := K) (a := q0) (ts.zip ps) fun z => V.ref z.1) rel_same (fun _ => true) (fun _ _ => True) (fun H' z v => ∃ a, v = .ref a ∧ a ≠ D ∧ H' a = some (.lst ((dbP row z.2).map V.str)) ∧ H a = none) (by omega) hD (fun s e => s _ _ e)
      (fun s ⟨a, e1, e2, e3, e4⟩ => ⟨a, e1, e2, s _ _ e3, e4⟩) (fun ⟨a, e1, e2, e3, e4⟩ => ⟨a, e1, e2, (upd_ne e2).trans e3, e4⟩) (fun h => h) trivial (fun H' s => SqL.of (by rw [z1]; exact s _ _ hq0)) (fun j z H4 Y N ej s4 _ hDo kY kN => ?_) (fun Lz H4 s4 _ eLz hD4 fz => ?_)
    · have hz := s4 _ _ (z4 z (List.mem_of_getElem? ej))
      obtain ⟨tz, ⟨i, j⟩⟩ := z
      have mp : (i, j) ∈ ps := by rw [← z2]; exact List.mem_map.mpr ⟨_, List.mem_of_getElem? ej, rfl⟩
      have hp := (mps _).mp mp
      have lij : i < j ∧ j ≤ row.length := ⟨hp.1, hp.2.1⟩
      obtain ⟨hij, hjn⟩ := lij
      have lg4 := lg.mono (s02.trans s4)
      refine ⟨tz, _, rfl, SqT.of hz, rfl, _, _, rfl, at_name (σ' := [some (.ref A0.q), some (.ref r), some (.int (i : Nat)), none]) rfl ⟨_, _, rfl, at_name (σ' := [some (.ref A0.q), some (.ref r), some (.int (i : Nat)), some (.int (j : Nat))]) rfl ⟨rfl, rfl, yes_if ?_⟩⟩⟩
      refine ⟨_, rfl, _, rfl, _, rfl, r, _, rfl, SqL.of lg4.at', fun p1 p10 => ?_⟩
      rw [cut_to _ _ (by rw [ll]; omega), ← List.map_take]
      have t1 := Same.new (H := H4) (o := .lst ((row.take j).map V.str)) p10
      have hp1 : upd H4 p1 (.lst ((row.take j).map V.str)) p1 = _ := upd_same
      generalize upd H4 p1 (.lst ((row.take j).map V.str)) = G1 at t1 hp1 ⊢
      refine ⟨_, rfl, _, rfl, _, rfl, r, _, rfl, SqL.of (t1 _ _ lg4.at'), fun p2 p20 => ?_⟩
      rw [cut_from _ _ (by rw [ll]; omega), ← List.map_drop]
      have t2 := Same.new (H := G1) (o := .lst ((row.drop i).map V.str)) p20
      have hp2 : upd G1 p2 (.lst ((row.drop i).map V.str)) p2 = _ := upd_same
      generalize upd G1 p2 (.lst ((row.drop i).map V.str)) = G2 at t2 hp2 ⊢
      refine ⟨p1, p2, _, _, rfl, rfl, t2 _ _ hp1, hp2, by rw [List.length_map, List.length_map, List.length_take, List.length_drop, sizeLine_eq]; omega, fun p3 p30 => ?_⟩
      rw [← List.map_append]
      obtain ⟨o, ho⟩ := hDo
      refine kY rfl _ _ (fun c o e => Same.new p30 _ _ (t2 _ _ (t1 _ _ e))) trivial ⟨p3, rfl, fun e => ?_, upd_same, none_back (s02.trans (s4.trans (t1.trans t2))) p30⟩
      rw [e, t2 _ _ (t1 _ _ ho)] at p30; cases p30
    · obtain ⟨zs, e1, e2, e3, e4⟩ := tl_pairs fz
      rw [e1] at hD4
      have e5 : zs.map (·.2) = ps.map (dbP row) := by
        rw [e2, ← z2, List.map_map]
        have q : Lz.map (fun q => dbP row q.1.2) = (Lz.map (·.1)).map fun z => dbP row z.2 := by rw [List.map_map]; rfl
        rw [q, eLz, List.filter_eq_self.mpr fun _ _ => rfl]; rfl
      have few : ps.length ≤ 63 := Nat.le_trans (few_tw nps fun p hp => (by have h := (mps p).mp hp; have h1 := h.1; have h2 := h.2.1; omega)) (by omega)
      have lzs : zs.length = ps.length := by have := congrArg List.length e5; rwa [List.length_map, List.length_map] at this
      have s04 := s02.trans s4
      refine ⟨D, zs, rfl, ⟨hD4, e3⟩, by omega, fun z hz => ?_, fun q ys H5 s5 hq0 ty fy so my => ?_⟩
      · obtain ⟨p, hp, e⟩ := List.mem_map.mp (show z.2 ∈ ps.map (dbP row) by rw [← e5]; exact List.mem_map.mpr ⟨z, hz, rfl⟩)
        rw [← e]
        exact (fun e => by
          have h := (mps p).mp hp
          have q := congrArg List.length e
          unfold dbP at q
          rw [List.length_append, List.length_take, List.length_drop, List.length_nil] at q
          have h1 := h.1; have h2 := h.2.1
          omega)
      · refine k q ys H5 (s04.trans s5) (s04.free hq0) ty (fun y hy => s04.free (fy y hy)) so (srt_few so (fun x hx => by rw [my, e5] at hx; exact hx) (by rw [List.length_map]; exact few)) fun x => ?_
        rw [my, e5, List.mem_map, Dbl.iff]
        exact ⟨fun ⟨p, h1, h2⟩ => ⟨p, (mps p).mp h1, h2.symm⟩, fun ⟨p, h1, h2⟩ => ⟨p, (mps p).mpr h1, h2.symm⟩⟩
abbrev nHvs : List Str := ["setting", "log", "first", "last"]
theorem scHvs : FnScope nHvs ["setting", "log"] (defScope sHvs) := ⟨rfl, rfl, rfl, by decide +kernel, rfl, by decide +kernel, by decide +kernel⟩
theorem ok_hvs {g : Addr} {fd : FuncData} (F : Fun K "halvings" "halvings" sHvs g fd) (MC : Cee P w K mg base 1 "check_setting" ["setting"] (spCheckSet S C)) (ML : Cee P w K mg base 3 "check_log" ["setting", "log"] (spCheckLog S C)) (MD : Cee P w K mg base 1 "_different" ["logs"] spDiff) (MT : Cee P w K mg base 4 "_halved" ["setting", "log"] (spHalf S C)) : FnOk P w K mg base CX0 5 g fd ["setting", "log"] (spHvs S C) := by
  refine F.ok scHvs (fun vs H Q E h => ?_) (fun cdv A outer s H vs Q E hr h => ?_)
  · obtain ⟨A, ws, f, dl, tw, r, row, rfl, _⟩ := h
    rfl
  · obtain ⟨A0, ws, f, dl, tw, r, row, rfl, st, lg, l10, k⟩ := h
    have nd := scHvs.nd
    refine ⟨_, pss_cons (ps_expr (pe_c MC hr rfl (pa_cons (pv 0) (pa_nil))))
      (pss_cons (ps_expr (pe_c ML hr rfl (pa_cons (pv 0) (pa_cons (pv 1) (pa_nil)))))
      (pss_one (ps_ret (pe_c MD hr rfl (pa_cons (pe_lc (own := [("first", 2), ("last", 3)]) (g := gXY K 2 3) (tt := tYes) (te := tOp rCat (tSl (rSlL K) (tVar 1) tNoPart (tPart (tVar 2))) (tSl (rSlL K) (tVar 1) (tPart (tVar 3)) tNoPart)) rfl nd (pi_list (pe_c MT hr rfl (pa_cons (pv 0) (pa_cons (pv 1) (pa_nil))))) (blkOk_by (own := [("first", 2), ("last", 3)]) (N := nHvs) (sc := defScope sHvs) (by decide +kernel)) (fun _ _ _ _ _ => pg_tup rfl (pgs_cons (pg_name (i := 2) nd rfl (Or.inl rfl)) (pgs_cons (pg_name (i := 3) nd rfl (Or.inl rfl)) (pgs_nil)))) (fun _ _ _ _ _ => pts_nil) (fun _ _ _ _ _ => pe_op op_cat (pe_slice sl_list (pv 1) (po_none) (po_some (pv 2))) (pe_slice sl_list (pv 1) (po_some (pv 3)) (po_none)))) (pa_nil)))))), ?_⟩
    refine ⟨_, rfl, A0, ws, f, dl, tw, rfl, st, ?_⟩
    refine ⟨_, rfl, _, rfl, A0, ws, f, dl, tw, r, row, rfl, st, lg, fun H1 s1 => ?_⟩
    have st1 := st.mono s1
    refine ⟨_, rfl, _, rfl, A0, ws, f, dl, tw, r, row, rfl, st1, lg.mono s1, by omega, fun q0 ts ps H2 s2 hq00 hq0 pr nps lps mps => ?_⟩
    obtain ⟨z1, z2, z3, z4⟩ := prs_zip pr
    have s02 : L2.Same H H2 := s1.trans s2
    have ll : ((row.map V.str).length : Nat) = row.length := List.length_map _
    refine ⟨q0, rfl, ⟨_, SqL.of hq0⟩, fun D hD => ?_⟩
    refine lcQ (walk_LI (K := K) (a := q0) (ts.zip ps) fun z => V.ref z.1) rel_same (fun _ => true) (fun _ _ => True) (fun H' z v => ∃ a, v = .ref a ∧ a ≠ D ∧ H' a = some (.lst ((hvP row z.2).map V.str)) ∧ H a = none) (by omega) hD (fun s e => s _ _ e)
      (fun s ⟨a, e1, e2, e3, e4⟩ => ⟨a, e1, e2, s _ _ e3, e4⟩) (fun ⟨a, e1, e2, e3, e4⟩ => ⟨a, e1, e2, (upd_ne e2).trans e3, e4⟩) (fun h => h) trivial (fun H' s => SqL.of (by rw [z1]; exact s _ _ hq0)) (fun j z H4 Y N ej s4 _ hDo kY kN => ?_) (fun Lz H4 s4 _ eLz hD4 fz => ?_)
    · have hz := s4 _ _ (z4 z (List.mem_of_getElem? ej))
      obtain ⟨tz, ⟨i, j⟩⟩ := z
      have mp : (i, j) ∈ ps := by rw [← z2]; exact List.mem_map.mpr ⟨_, List.mem_of_getElem? ej, rfl⟩
      have hp := (mps _).mp mp
      have lij : i < j ∧ j ≤ row.length := ⟨hp.1.1, hp.1.2.1⟩
      obtain ⟨hij, hjn⟩ := lij
      have lg4 := lg.mono (s02.trans s4)
      refine ⟨tz, _, rfl, SqT.of hz, rfl, _, _, rfl, at_name (σ' := [some (.ref A0.q), some (.ref r), some (.int (i : Nat)), none]) rfl ⟨_, _, rfl, at_name (σ' := [some (.ref A0.q), some (.ref r), some (.int (i : Nat)), some (.int (j : Nat))]) rfl ⟨rfl, rfl, yes_if ?_⟩⟩⟩
      refine ⟨_, rfl, _, rfl, _, rfl, r, _, rfl, SqL.of lg4.at', fun p1 p10 => ?_⟩
      rw [cut_to _ _ (by rw [ll]; omega), ← List.map_take]
      have t1 := Same.new (H := H4) (o := .lst ((row.take i).map V.str)) p10
      have hp1 : upd H4 p1 (.lst ((row.take i).map V.str)) p1 = _ := upd_same
      generalize upd H4 p1 (.lst ((row.take i).map V.str)) = G1 at t1 hp1 ⊢
      refine ⟨_, rfl, _, rfl, _, rfl, r, _, rfl, SqL.of (t1 _ _ lg4.at'), fun p2 p20 => ?_⟩
      rw [cut_from _ _ (by rw [ll]; omega), ← List.map_drop]
      have t2 := Same.new (H := G1) (o := .lst ((row.drop j).map V.str)) p20
      have hp2 : upd G1 p2 (.lst ((row.drop j).map V.str)) p2 = _ := upd_same
      generalize upd G1 p2 (.lst ((row.drop j).map V.str)) = G2 at t2 hp2 ⊢
      refine ⟨p1, p2, _, _, rfl, rfl, t2 _ _ hp1, hp2, by rw [List.length_map, List.length_map, List.length_take, List.length_drop, sizeLine_eq]; omega, fun p3 p30 => ?_⟩
      rw [← List.map_append]
      obtain ⟨o, ho⟩ := hDo
      refine kY rfl _ _ (fun c o e => Same.new p30 _ _ (t2 _ _ (t1 _ _ e))) trivial ⟨p3, rfl, fun e => ?_, upd_same, none_back (s02.trans (s4.trans (t1.trans t2))) p30⟩
      rw [e, t2 _ _ (t1 _ _ ho)] at p30; cases p30
    · obtain ⟨zs, e1, e2, e3, e4⟩ := tl_pairs fz
      rw [e1] at hD4
      have e5 : zs.map (·.2) = ps.map (hvP row) := by
        rw [e2, ← z2, List.map_map]
        have q : Lz.map (fun q => hvP row q.1.2) = (Lz.map (·.1)).map fun z => hvP row z.2 := by rw [List.map_map]; rfl
        rw [q, eLz, List.filter_eq_self.mpr fun _ _ => rfl]; rfl
      have few : ps.length ≤ 63 := Nat.le_trans (few_hv nps fun p hp => (by have h := (mps p).mp hp; have h1 := h.1.1; have h2 := h.le; omega)) (by omega)
      have lzs : zs.length = ps.length := by have := congrArg List.length e5; rwa [List.length_map, List.length_map] at this
      have s04 := s02.trans s4
      refine ⟨D, zs, rfl, ⟨hD4, e3⟩, by omega, fun z hz => ?_, fun q ys H5 s5 hq0 ty fy so my => ?_⟩
      · obtain ⟨p, hp, e⟩ := List.mem_map.mp (show z.2 ∈ ps.map (hvP row) by rw [← e5]; exact List.mem_map.mpr ⟨z, hz, rfl⟩)
        rw [← e]
        exact (fun e => by
          have h := (mps p).mp hp
          have q := congrArg List.length e
          unfold hvP at q
          rw [List.length_append, List.length_take, List.length_drop, List.length_nil] at q
          have h1 := h.1.1; have h2 := h.1.2.1; have h3 := h.le
          omega)
      · refine k q ys H5 (s04.trans s5) (s04.free hq0) ty (fun y hy => s04.free (fy y hy)) so (srt_few so (fun x hx => by rw [my, e5] at hx; exact hx) (by rw [List.length_map]; exact few)) fun x => ?_
        rw [my, e5, List.mem_map, Hlv.iff]
        exact ⟨fun ⟨p, h1, h2⟩ => ⟨p, (mps p).mp h1, h2.symm⟩, fun ⟨p, h1, h2⟩ => ⟨p, (mps p).mpr h1, h2.symm⟩⟩
abbrev nHalf : List Str := ["setting", "log", "first", "last"]
theorem scHalf : FnScope nHalf ["setting", "log"] (defScope sHalf) := ⟨rfl, rfl, rfl, by decide +kernel, rfl, by decide +kernel, by decide +kernel⟩
theorem ok_half {g : Addr} {fd : FuncData} (F : Fun K "_halved" "_halved" sHalf g fd) (MT : Cee P w K mg base 3 "_twice_stretches" ["setting", "log"] (spTwS S C)) : FnOk P w K mg base CX0 4 g fd ["setting", "log"] (spHalf S C) := by
  refine F.ok scHalf (fun vs H Q E h => ?_) (fun cdv A outer s H vs Q E hr h => ?_)
  · obtain ⟨A, ws, f, dl, tw, r, row, rfl, _⟩ := h
    rfl
  · obtain ⟨A0, ws, f, dl, tw, r, row, rfl, st, lg, l30, k⟩ := h
    have nd := scHalf.nd
    refine ⟨_, pss_one (ps_ret (pe_lc (own := [("first", 2), ("last", 3)]) (g := gXY K 2 3) (tt := tTest (tOp (rEqD K) (tSl (rSlL K) (tVar 1) (tPart (tVar 2)) (tPart (tVar 3))) (tSl (rSlL K) (tVar 1) (tPart (tVar 3)) (tPart (tOp (rI0 fun i j => .int (i - j)) (tOp (rI0 fun i j => .int (i + j)) (tVar 3) (tVar 3)) (tVar 2)))))) (te := tTup (tCons (tVar 2) (tCons (tVar 3) tNil))) rfl nd (pi_list (pe_c MT hr rfl (pa_cons (pv 0) (pa_cons (pv 1) (pa_nil))))) (blkOk_by (own := [("first", 2), ("last", 3)]) (N := nHalf) (sc := defScope sHalf) (by decide +kernel)) (fun _ _ _ _ _ => pg_tup rfl (pgs_cons (pg_name (i := 2) nd rfl (Or.inl rfl)) (pgs_cons (pg_name (i := 3) nd rfl (Or.inl rfl)) (pgs_nil)))) (fun _ _ _ _ _ => pts_one (pt_cmpR (op_eqD (hu65' hr)) (pe_slice sl_list (pv 1) (po_some (pv 2)) (po_some (pv 3))) (pe_slice sl_list (pv 1) (po_some (pv 3)) (po_some (pe_op op_sub (pe_op op_add (pv 3) (pv 3)) (pv 2)))) (nomark _))) (fun _ _ _ _ _ => pe_tup (pa_cons (pv 2) (pa_cons (pv 3) (pa_nil)))))), ?_⟩
    refine ⟨_, rfl, _, rfl, A0, ws, f, dl, tw, r, row, rfl, st, lg, l30, fun q0 ts ps H2 s2 hq00 hq0 pr nps lps mps => ?_⟩
    obtain ⟨z1, z2, z3, z4⟩ := prs_zip pr
    have ll : ((row.map V.str).length : Nat) = row.length := List.length_map _
    have wd : ∀ x ∈ row, Wd x := fun x hx => st.ok.wd x (lg.mem x hx)
    refine ⟨q0, rfl, ⟨_, SqL.of hq0⟩, fun D hD => ?_⟩
    refine lcQ (walk_LI (K := K) (a := q0) (ts.zip ps) fun z => V.ref z.1) rel_same (fun z => decide ((row.take z.2.2).drop z.2.1 = (row.take (z.2.2 + z.2.2 - z.2.1)).drop z.2.2)) (fun _ _ => True) (fun H' z v => ∃ a, v = .ref a ∧ a ≠ D ∧ H' a = some (.tup [.int (z.2.1 : Nat), .int (z.2.2 : Nat)])) (by omega) hD (fun s e => s _ _ e)
      (fun s ⟨a, e1, e2, e3⟩ => ⟨a, e1, e2, s _ _ e3⟩) (fun ⟨a, e1, e2, e3⟩ => ⟨a, e1, e2, (upd_ne e2).trans e3⟩) (fun h => h) trivial (fun H' s => SqL.of (by rw [z1]; exact s _ _ hq0)) (fun j z H4 Y N ej s4 _ hDo kY kN => ?_) (fun Lz H4 s4 _ eLz hD4 fz => ?_)
    · have hz := s4 _ _ (z4 z (List.mem_of_getElem? ej))
      obtain ⟨tz, ⟨i, j⟩⟩ := z
      have mp : (i, j) ∈ ps := by rw [← z2]; exact List.mem_map.mpr ⟨_, List.mem_of_getElem? ej, rfl⟩
      obtain ⟨hij, hjn, _⟩ : TwS f tw (kds dl row) row.length (i, j) := (mps _).mp mp
      have hij : i < j := hij
      have hjn : j ≤ row.length := hjn
      have lg4 := lg.mono (s2.trans s4)
      refine ⟨tz, _, rfl, SqT.of hz, rfl, _, _, rfl, at_name (σ' := [some (.ref A0.q), some (.ref r), some (.int (i : Nat)), none]) rfl ⟨_, _, rfl, at_name (σ' := [some (.ref A0.q), some (.ref r), some (.int (i : Nat)), some (.int (j : Nat))]) rfl ⟨rfl, rfl, ?_⟩⟩⟩
      refine ⟨_, rfl, _, rfl, _, rfl, _, rfl, _, rfl, r, _, rfl, SqL.of lg4.at', fun p1 p10 => ?_⟩
      rw [cut_mid _ _ _ (by omega) (by rw [ll]; omega), ← List.map_take, ← List.map_drop]
      have t1 := Same.new (H := H4) (o := .lst (((row.take j).drop i).map V.str)) p10
      have hp1 : upd H4 p1 (.lst (((row.take j).drop i).map V.str)) p1 = _ := upd_same
      generalize upd H4 p1 (.lst (((row.take j).drop i).map V.str)) = G1 at t1 hp1 ⊢
      refine ⟨_, rfl, _, rfl, _, rfl, _, rfl, _, rfl, _, _, rfl, rfl, _, rfl, _, _, rfl, rfl, _, rfl, r, _, rfl, SqL.of (t1 _ _ lg4.at'), fun p2 p20 => ?_⟩
      rw [show ((j : Nat) : Int) + ((j : Nat) : Int) - ((i : Nat) : Int) = ((j + j - i : Nat) : Int) by omega, cut_any _ _ _ (by omega) (by rw [ll]; omega), ← List.map_take, ← List.map_drop]
      have t2 := Same.new (H := G1) (o := .lst (((row.take (j + j - i)).drop j).map V.str)) p20
      have hp2 : upd G1 p2 (.lst (((row.take (j + j - i)).drop j).map V.str)) p2 = _ := upd_same
      generalize upd G1 p2 (.lst (((row.take (j + j - i)).drop j).map V.str)) = G2 at t2 hp2 ⊢
      refine ⟨_, _, dp_strs (SqL.of (t2 _ _ hp1)), dp_strs (SqL.of hp2), shaped_strs _ (fun x hx => wd x (List.mem_of_mem_take (List.mem_of_mem_drop hx))), shaped_strs _ (fun x hx => wd x (List.mem_of_mem_take (List.mem_of_mem_drop hx))), ?_⟩
      rw [eqv_strs]
      obtain ⟨o, ho⟩ := hDo
      refine ⟨_, rfl, ite2 (fun hb => ?_) (fun hb => kN (Bool.eq_false_iff.mpr hb) _ (t1.trans t2) trivial)⟩
      refine ⟨_, rfl, _, rfl, (by show 2 ≤ sizeLine; decide), fun p3 p30 => ?_⟩
      refine kY hb _ _ (fun c o e => Same.new p30 _ _ (t2 _ _ (t1 _ _ e))) trivial ⟨p3, rfl, fun e => ?_, upd_same⟩
      rw [e, t2 _ _ (t1 _ _ ho)] at p30; cases p30
    · obtain ⟨ts2, e1, pr2⟩ : ∃ ts2 : List Addr, Lz.map (·.2) = ts2.map V.ref ∧ PairsT H4 ts2 (Lz.map (·.1.2)) := by
        clear eLz hD4
        induction Lz with
        | nil => exact ⟨[], rfl, .nil⟩
        | cons q Lz ih =>
          obtain ⟨a, ea, _, e3⟩ := fz q List.mem_cons_self
          obtain ⟨ts2, h1, h2⟩ := ih fun x hx => fz x (List.mem_cons_of_mem _ hx)
          exact ⟨a :: ts2, by rw [List.map_cons, List.map_cons, ea, h1], .cons e3 h2⟩
      have e2 : Lz.map (fun q => q.1.2) = ps.filter fun p => decide ((row.take p.2).drop p.1 = (row.take (p.2 + p.2 - p.1)).drop p.2) := by
        have q : Lz.map (fun q => q.1.2) = (Lz.map (·.1)).map (·.2) := by rw [List.map_map]; rfl
        rw [q, eLz]
        conv => rhs; rw [← z2]
        rw [List.filter_map]; rfl
      rw [e2] at pr2
      rw [e1] at hD4
      refine k D ts2 _ H4 (s2.trans s4) (none_back s2 hD) hD4 pr2 (nps.filter _) (Nat.le_trans (List.length_filter_le _ _) lps) fun p => ?_
      rw [List.mem_filter, mps, decide_eq_true_eq]
      exact Iff.rfl
end
end KT
set_option Elab.async false
set_option linter.all false
set_option maxRecDepth 100000
set_option maxHeartbeats 2000000
set_option pp.maxSteps 900
namespace KT
open PySem PySem.Spec PySem.W PyProof.Rows L2 DTp TxS
def encL (z : Addr × List Str) : PyData := .list (z.2.map .str)
theorem encL_lt (a b : Addr × List Str) : dataLt (encL a) (encL b) = decide (ltR a.2 b.2) := by
  unfold encL
  rw [dataLt_list]
  exact rowLt_texts _ _
theorem encL_le (a b : Addr × List Str) : dataLe false encL a b = true ↔ ¬ ltR b.2 a.2 := by
  rw [dataLe_eq]
  show (!dataLt (encL b) (encL a)) = true ↔ _
  rw [encL_lt, Bool.not_eq_true', decide_eq_false_iff_not]
theorem each_refs {R : Value → Addr × List Str → Prop} : ∀ {zs : List (Addr × List Str)} {us : List Value}, Vals (zs.map fun z => V.ref z.1) us → (∀ z ∈ zs, R (.ref z.1) z) → PySem.W.EachIs R us zs
  | [], _, .nil, _ => .nil
  | z :: zs, _, .cons r t, h => by
    have e : _ = Value.ref z.1 := r
    subst e
    exact .cons (h z List.mem_cons_self) (each_refs t fun y hy => h y (List.mem_cons_of_mem _ hy))
theorem refs_each : ∀ {ys : List (Addr × List Str)} {us : List Value}, PySem.W.EachIs (fun v (z : Addr × List Str) => v = Value.ref z.1) us ys → Vals (ys.map fun z => V.ref z.1) us
  | [], _, .nil => .nil
  | y :: ys, _, .cons h t => .cons h (refs_each t)
def rSortLT : List V → Hp → VK → Prop := fun vs H Q => ∃ (l : Addr) (zs : List (Addr × List Str)), vs = [.ref l] ∧ TLs H l zs ∧ ∀ (ys : List (Addr × List Str)) (p : Addr), ys.Perm zs → (ys.map (·.2)).Pairwise (fun a b => ¬ ltR b a) → H p = none → Q (.ref p) (upd H p (.lst (ys.map fun z => V.ref z.1)))
section
variable {X : Cx}
theorem cr_sortLT (hu : X.A.units + 64 < cLine) : CallR X (.builtin "sorted") rSortLT := by
  intro pins s σ H vs us Q I r h
  obtain ⟨l, zs, rfl, tl, q⟩ := h
  rw [Vals.ref1 r]
  obtain ⟨hlen, its, c, hv, hg⟩ := I.hok l _ tl.at'
  rw [List.length_map] at hlen
  have rd : ∀ z ∈ zs, ∃ as, Reads s.heap (.ref z.1) (encL z) as := fun z hz' => Dp.reads I _ (.ref z.1) (.ref z.1) (dp_strs (SqL.of (tl.all z hz'))) rfl
  refine PySem.W.sorted_data (s := s) (enc := encL) (bs := zs) (R := fun v (z : Addr × List Str) => v = Value.ref z.1) (vs := its) ⟨_, hg, rfl, c, rfl⟩ (each_refs hv fun _ _ => rfl) (each_refs hv rd)
    (PySem.W.AllAlike.of fun b b' => ?_) (PySem.W.Sortable.others fun b => ⟨fun e => (by unfold encL at e; cases e), fun xs e => (by unfold encL at e; cases e)⟩) hlen (fun b hb => ?_) fun out lo ho => ?_
  · unfold encL
    simp only [alike]
    exact alike_texts _ _
  · have d : (encL b).depth ≤ 2 := by
      unfold encL PyData.depth
      have := depth_texts b.2
      omega
    omega
  · have hp : s.heap.objs.size ≤ s.heap.objs.size + 1 := Nat.le_succ _
    have hn : H (s.heap.objs.size + 1) = none := I.hok.fresh hp
    obtain ⟨e, he⟩ := sortedAll_at s.heap its out.toArray
    have k : ∀ b o, s.heap.get? b = some o → (sortedAll s.heap its out.toArray).get? b = some o := fun b o e => sortedAll_old e
    have pm : (zs.mergeSort (PySem.W.dataLe false encL)).Perm zs := List.mergeSort_perm _ _
    have so : ((zs.mergeSort (PySem.W.dataLe false encL)).map (·.2)).Pairwise fun a b => ¬ ltR b a := by
      rw [List.pairwise_map]
      refine (List.pairwise_mergeSort (le := dataLe false encL) (fun a b c h k => ?_) (fun a b => ?_) zs).imp fun h => (encL_le _ _).mp h
      · have h1 := (encL_le a b).mp h
        have h2 := (encL_le b c).mp k
        refine (encL_le a c).mpr fun z => ?_
        rcases ltR_tri a.2 b.2 with c1 | c1 | c1
        · exact h2 (ltR_trans z c1)
        · rw [c1] at z; exact h2 z
        · exact h1 c1
      · rcases Classical.em (ltR b.2 a.2) with h | h
        · rw [(encL_le b a).mpr (ltR_as _ _ h), Bool.or_true]
        · rw [(encL_le a b).mpr h]; rfl
    have hlen2 : ((zs.mergeSort (PySem.W.dataLe false encL)).map fun z => V.ref z.1).length ≤ sizeLine := by rw [List.length_map, pm.length_eq]; exact hlen
    have J : Inv X pins σ (upd H (s.heap.objs.size + 1) (.lst ((zs.mergeSort (PySem.W.dataLe false encL)).map fun z => V.ref z.1))) { s with heap := sortedAll s.heap its out.toArray } :=
      I.call (ch := []) (Un.laid k hp hn) (I.hok.laid k hp ⟨hlen2, out, e, refs_each ho, he⟩) I.bare fun _ z => nomatch z
    exact ⟨.ref (s.heap.objs.size + 1), _, J, rfl, q _ _ pm so hn⟩
end
/-- rows ascending, with the same members, are the same -/
theorem srt_eq : ∀ {xs ys : List (List Str)}, xs.Pairwise ltR → ys.Pairwise ltR → (∀ x, x ∈ xs ↔ x ∈ ys) → xs = ys
  | [], [], _, _, _ => rfl
  | [], y :: ys, _, _, h => absurd ((h y).mpr List.mem_cons_self) (by simp)
  | x :: xs, [], _, _, h => absurd ((h x).mp List.mem_cons_self) (by simp)
  | x :: xs, y :: ys, hx, hy, h => by
    obtain ⟨a1, a2⟩ := List.pairwise_cons.mp hx
    obtain ⟨b1, b2⟩ := List.pairwise_cons.mp hy
    have e : x = y := by
      rcases List.mem_cons.mp ((h x).mp List.mem_cons_self) with e | m
      · exact e
      · rcases List.mem_cons.mp ((h y).mpr List.mem_cons_self) with e | m2
        · exact e.symm
        · exact absurd (ltR_trans (a1 y m2) (b1 x m)) (ltR_irr _)
    subst e
    rw [srt_eq a2 b2 fun z => ⟨fun hz => ?_, fun hz => ?_⟩]
    · rcases List.mem_cons.mp ((h z).mp (List.mem_cons_of_mem _ hz)) with e | m
      · rw [e] at hz; exact absurd (a1 x hz) (ltR_irr _)
      · exact m
    · rcases List.mem_cons.mp ((h z).mpr (List.mem_cons_of_mem _ hz)) with e | m
      · rw [e] at hz; exact absurd (b1 x hz) (ltR_irr _)
      · exact m
section
variable {ws : List Str} {f : Str → Str → Str}
theorem cut_rev {α : Type} (xs : List α) {a b : Nat} (h1 : a ≤ b) (h2 : b ≤ xs.length) : (xs.reverse.take (xs.length - a)).drop (xs.length - b) = ((xs.take b).drop a).reverse := by
  rw [List.take_reverse, List.drop_reverse, show xs.length - (xs.length - a) = a by omega, List.length_drop, show xs.length - a - (xs.length - b) = b - a by omega, ← List.drop_take]
theorem btw_rev (kw : KW ws f) {ks : List Str} (mk : ∀ z ∈ ks, z ∈ ws) {a b : Nat} (h1 : a < b) (h2 : b ≤ ks.length) : btw (fun x y => f y x) ks.reverse (ks.length - b, ks.length - a) = btw f ks (a, b) := by
  show lp (fun x y => f y x) ((ks.reverse.take (ks.length - a)).drop (ks.length - b)) = lp f ((ks.take b).drop a)
  rw [cut_rev ks (Nat.le_of_lt h1) h2]
  obtain ⟨L, eL⟩ : ∃ L, L = (ks.take b).drop a := ⟨_, rfl⟩
  rw [← eL]
  have ne : L ≠ [] := fun e => by
    have := congrArg List.length e
    rw [eL, List.length_drop, List.length_take, List.length_nil] at this
    omega
  have mL : ∀ z ∈ L, z ∈ ws := fun z hz => by rw [eL] at hz; exact mk z (List.mem_of_mem_take (List.mem_of_mem_drop hz))
  rw [← rp_lp kw.turn L.reverse (fun z hz => mL z (List.mem_reverse.mp hz)) (fun e => ne (by rw [← List.reverse_reverse L, e]; rfl)), rp_rev]
theorem kds_rev (dl : List (Str × Str)) (row : List Str) : kds dl row.reverse = (kds dl row).reverse := by unfold kds; rw [List.map_reverse]
theorem Dbl.rev (kw : KW ws f) {dl : List (Str × Str)} {tw row x : List Str} (mk : ∀ z ∈ kds dl row, z ∈ ws) (h : Dbl f tw (kds dl row) row x) : Dbl (fun x y => f y x) tw (kds dl row.reverse) row.reverse x.reverse := by
  obtain ⟨⟨a, b⟩, ⟨h1, h2, h3⟩, rfl⟩ := Dbl.iff.mp h
  have h1 : a < b := h1
  have h2 : b ≤ row.length := h2
  have lk : (kds dl row).length = row.length := kds_len ..
  refine Dbl.iff.mpr ⟨(row.length - b, row.length - a), ⟨by show row.length - b < row.length - a; omega, by show row.length - a ≤ _; rw [List.length_reverse]; omega, ?_⟩, ?_⟩
  · rw [kds_rev, ← lk, btw_rev kw mk h1 (by omega)]
    exact h3
  · unfold dbP
    rw [List.reverse_append, List.take_reverse, List.drop_reverse]
    dsimp only
    rw [show row.length - (row.length - a) = a by omega, show row.length - (row.length - b) = b by omega]
theorem Hlv.rev (kw : KW ws f) {dl : List (Str × Str)} {tw row x : List Str} (mk : ∀ z ∈ kds dl row, z ∈ ws) (h : Hlv f tw (kds dl row) row x) : Hlv (fun x y => f y x) tw (kds dl row.reverse) row.reverse x.reverse := by
  obtain ⟨a, n, h0, h1, h2, h3, rfl⟩ := h
  have lk : (kds dl row).length = row.length := kds_len ..
  obtain ⟨N, eN⟩ : ∃ N, N = row.length := ⟨_, rfl⟩
  have e1 := cut_rev row (a := a + n) (b := a + 2 * n) (by omega) (by omega)
  have e2 := cut_rev row (a := a) (b := a + n) (by omega) (by omega)
  rw [← eN] at e1 e2 h1
  have i1 : N - (a + 2 * n) + n = N - (a + n) := by omega
  have i2 : N - (a + 2 * n) + 2 * n = N - a := by omega
  refine ⟨N - (a + 2 * n), n, h0, by rw [List.length_reverse]; omega, ?_, ?_, ?_⟩
  · rw [i1, i2, e1, e2, h2]
  · have q := btw_rev kw mk (a := a + n) (b := a + 2 * n) (by omega) (by omega)
    rw [lk, ← eN] at q
    have c : btw f (kds dl row) (a + n, a + 2 * n) = btw f (kds dl row) (a, a + n) := by
      show lp f (((kds dl row).take (a + 2 * n)).drop (a + n)) = lp f (((kds dl row).take (a + n)).drop a)
      rw [← kds_cut, ← h2, kds_cut]
    rw [kds_rev, i1, q, c]
    exact h3
  · unfold hvAt
    rw [i1, List.reverse_append, List.take_reverse, List.drop_reverse, ← eN, show N - (N - (a + 2 * n)) = a + 2 * n by omega, show N - (N - (a + n)) = a + n by omega, ← List.reverse_append, ← List.reverse_append]
    congr 1
    have q1 : row.take (a + n) = row.take a ++ (row.take (a + n)).drop a := by
      have := List.take_append_drop a (row.take (a + n))
      rw [List.take_take, Nat.min_eq_left (by omega)] at this
      exact this.symm
    have q2 : row.drop (a + n) = (row.take (a + 2 * n)).drop (a + n) ++ row.drop (a + 2 * n) := by
      rw [← List.drop_append_of_le_length (by rw [List.length_take]; omega), List.take_append_drop]
    rw [q2, ← h2, ← List.append_assoc, ← q1]
end
end KT
set_option Elab.async false
set_option linter.all false
set_option maxRecDepth 100000
set_option maxHeartbeats 2000000
set_option pp.maxSteps 900
namespace KT
open PySem L2 PyProof.Rows DTp TxS
theorem Dbl.mem {f : Str → Str → Str} {tw ks row x : List Str} (h : Dbl f tw ks row x) : (∀ z ∈ x, z ∈ row) ∧ x.length ≤ 2 * row.length ∧ row.length < x.length := by
  obtain ⟨p, ⟨h1, h2, _⟩, rfl⟩ := Dbl.iff.mp h
  unfold dbP
  refine ⟨fun z hz => ?_, ?_, ?_⟩
  · rcases List.mem_append.mp hz with h | h
    · exact List.mem_of_mem_take h
    · exact List.mem_of_mem_drop h
  · rw [List.length_append, List.length_take, List.length_drop]; omega
  · rw [List.length_append, List.length_take, List.length_drop]; omega
theorem Hlv.mem {f : Str → Str → Str} {tw ks row x : List Str} (h : Hlv f tw ks row x) : (∀ z ∈ x, z ∈ row) ∧ x.length ≤ row.length := by
  obtain ⟨a, n, h0, h1, _, _, rfl⟩ := h
  unfold hvAt
  refine ⟨fun z hz => ?_, ?_⟩
  · rcases List.mem_append.mp hz with h | h
    · exact List.mem_of_mem_take h
    · exact List.mem_of_mem_drop h
  · rw [List.length_append, List.length_take, List.length_drop]; omega
/-- a log is a halving of each of its doublings -/
theorem Dbl.back {f : Str → Str → Str} {dl : List (Str × Str)} {tw row x : List Str} (h : Dbl f tw (kds dl row) row x) : Hlv f tw (kds dl x) x row := by
  obtain ⟨a, b, h1, h2, h3, rfl⟩ := h
  obtain ⟨L, eL⟩ : ∃ L, L = (row.take b).drop a := ⟨_, rfl⟩
  have lL : L.length = b - a := by rw [eL, List.length_drop, List.length_take]; omega
  have la : (row.take a).length = a := by rw [List.length_take]; omega
  have q1 : row.take b = row.take a ++ L := by
    have := List.take_append_drop a (row.take b)
    rw [List.take_take, Nat.min_eq_left (by omega)] at this
    rw [eL]
    exact this.symm
  have q2 : row.take a ++ (L ++ row.drop b) = row := by rw [← List.append_assoc, ← q1, List.take_append_drop]
  have e0 : dbAt row a b = row.take a ++ (L ++ (L ++ row.drop b)) := by
    unfold dbAt
    rw [← eL, q1]
    simp [List.append_assoc]
  have c1 : ((dbAt row a b).take b).drop a = L := by
    rw [e0, List.take_append, la, List.drop_append, List.drop_of_length_le (by rw [List.length_take, la]; omega), List.nil_append, List.length_take, la, List.take_append, lL, Nat.sub_self, List.take_zero, List.append_nil, List.take_of_length_le (by omega)]
    rw [show a - min b a = 0 by omega, List.drop_zero]
  have c2 : ((dbAt row a b).take (b + (b - a))).drop b = L := by
    rw [e0, ← List.append_assoc, List.take_append, List.drop_append, List.drop_of_length_le (by rw [List.length_take, List.length_append, la, lL]; omega), List.nil_append, List.length_take, List.length_append, la, lL, List.take_append, lL, List.take_of_length_le (l := L) (by omega), show b + (b - a) - (a + (b - a)) - (b - a) = 0 by omega, List.take_zero, List.append_nil, show b - min (b + (b - a)) (a + (b - a)) = 0 by omega, List.drop_zero]
  refine ⟨a, b - a, by omega, ?_, ?_, ?_, ?_⟩
  · unfold dbAt
    rw [List.length_append, List.length_append, List.length_drop, List.length_take, List.length_drop]; omega
  · rw [show a + (b - a) = b by omega, show a + 2 * (b - a) = b + (b - a) by omega, c1, c2]
  · rw [show a + (b - a) = b by omega]
    have q : btw f (kds dl (dbAt row a b)) (a, b) = btw f (kds dl row) (a, b) := by
      show lp f (((kds dl (dbAt row a b)).take b).drop a) = lp f (((kds dl row).take b).drop a)
      rw [← kds_cut, ← kds_cut, c1, eL]
    rw [q]
    exact h3
  · unfold hvAt
    rw [show a + (b - a) = b by omega, e0]
    have d1 : (row.take a ++ (L ++ (L ++ row.drop b))).take a = row.take a := List.take_left' la
    have d2 : (row.take a ++ (L ++ (L ++ row.drop b))).drop b = L ++ row.drop b := by
      rw [← List.append_assoc]
      exact List.drop_left' (by rw [List.length_append, la, lL]; omega)
    rw [d1, d2, q2]
theorem TLs.log {H : Hp} {l : Addr} {zs : List (Addr × List Str)} {dl : List (Str × Str)} (h : TLs H l zs) {z : Addr × List Str} (hz : z ∈ zs) (few : z.2.length ≤ 100) (m : ∀ x ∈ z.2, x ∈ keysD dl) : LogAt dl H z.1 z.2 := ⟨h.all z hz, few, m⟩
theorem alike_tls {H : Hp} {a b : Addr} {zs ys : List (Addr × List Str)} (n : Nat) (h1 : TLs H a zs) (h2 : TLs H b ys) (e : zs.map (·.2) = ys.map (·.2)) (few : zs.length ≤ 100) (fr : ∀ z ∈ zs, z.2.length ≤ 100) : Alike (n + 3) H (.ref a) (.ref b) := by
  refine .inr (.inl ⟨a, b, _, _, rfl, rfl, h1.at', h2.at', by rw [List.length_map]; exact few, ?_⟩)
  have key : ∀ (zs ys : List (Addr × List Str)), (∀ z ∈ zs, H z.1 = some (.lst (z.2.map V.str))) → (∀ z ∈ ys, H z.1 = some (.lst (z.2.map V.str))) → zs.map (·.2) = ys.map (·.2) → (∀ z ∈ zs, z.2.length ≤ 100) → Paired (Alike (n + 2) H) (zs.map fun z => V.ref z.1) (ys.map fun z => V.ref z.1) := by
    intro zs
    induction zs with
    | nil =>
      intro ys _ _ e _
      cases ys with
      | nil => exact .nil
      | cons y ys => cases e
    | cons z zs ih =>
      intro ys a1 a2 e fr
      cases ys with
      | nil => cases e
      | cons y ys =>
        injection e with e1 e2
        have e1 : z.2 = y.2 := e1
        refine .cons (alike_strs n (a1 z List.mem_cons_self) (by rw [e1]; exact a2 y List.mem_cons_self) (fr z List.mem_cons_self)) (ih ys (fun x hx => a1 x (List.mem_cons_of_mem _ hx)) (fun x hx => a2 x (List.mem_cons_of_mem _ hx)) e2 fun x hx => fr x (List.mem_cons_of_mem _ hx))
  exact key zs ys h1.all h2.all e fr
theorem tl_gen {ι : Type} {H0 H : Hp} {D : Addr} {g : ι → List Str} {L : List (ι × V)} (h : ∀ q ∈ L, ∃ a, q.2 = V.ref a ∧ a ≠ D ∧ H a = some (.lst ((g q.1).map V.str)) ∧ H0 a = none) :
    ∃ zs : List (Addr × List Str), L.map (·.2) = zs.map (fun z => V.ref z.1) ∧ zs.map (·.2) = L.map (fun q => g q.1) ∧ (∀ z ∈ zs, H z.1 = some (.lst (z.2.map V.str))) ∧ ∀ z ∈ zs, H0 z.1 = none := by
  obtain ⟨zs, e1, e2, e3, e4⟩ := tl_new (H0 := H0) (H := H) (D := D) (L := L.map fun q => ((D, g q.1), q.2)) (fun q hq => by
    obtain ⟨x, hx, rfl⟩ := List.mem_map.mp hq
    exact h x hx)
  rw [List.map_map] at e1 e2
  exact ⟨zs, e1, e2, e3, e4⟩
theorem TLs.purse {H H' : Hp} {l p : Addr} {B : Int} {zs : List (Addr × List Str)} (h : TLs H l zs) (hP : PurseAt H p B) (b : But p H H') : TLs H' l zs := by
  refine ⟨b _ _ (fun e => ?_) h.at', fun z hz => b _ _ (Ne.symm (hP.strs (h.all z hz))) (h.all z hz)⟩
  obtain ⟨a, b, c, d, hp, _⟩ := hP
  rw [← e, h.at'] at hp
  have q := HO.lst.inj (Option.some.inj hp)
  cases zs with
  | nil => cases q
  | cons z zs => injection q with q _; cases q
theorem LogAt.purse {dl : List (Str × Str)} {H H' : Hp} {r p : Addr} {B : Int} {row : List Str} (h : LogAt dl H r row) (hP : PurseAt H p B) (b : But p H H') : LogAt dl H' r row := ⟨b _ _ (Ne.symm (hP.strs h.at')) h.at', h.few, h.mem⟩
theorem rev_inj {xs : List (List Str)} (h : xs.Nodup) : (xs.map List.reverse).Nodup := List.Pairwise.map _ (fun a b n e => n (by rw [← List.reverse_reverse a, e, List.reverse_reverse])) h
def rowsD (zs : List (Addr × List Str)) : List PyData := zs.map fun z => .list (z.2.map PyData.str)
section
variable {K : PySem.W.Frag}
theorem dpAll_rows {H : Hp} : ∀ {zs : List (Addr × List Str)}, (∀ z ∈ zs, H z.1 = some (.lst (z.2.map V.str))) → DpAll K H (zs.map fun z => V.ref z.1) (rowsD zs)
  | [], _ => .nil
  | z :: zs, h => .cons (dp_strs (SqL.of (h z List.mem_cons_self))) (dpAll_rows fun y hy => h y (List.mem_cons_of_mem _ hy))
end
theorem lay_rows : ∀ zs : List (Addr × List Str), (∀ z ∈ zs, ∀ x ∈ z.2, Wd x) → PyData.canLayAll0 (rowsD zs) = true
  | [], _ => rfl
  | z :: zs, h => by
    show PyData.canLayAll0 (PyData.list (z.2.map PyData.str) :: rowsD zs) = true
    simp only [PyData.canLayAll0, PyData.canLay0, Bool.and_eq_true]
    exact ⟨lay_strs _ (h z List.mem_cons_self), lay_rows zs fun y hy => h y (List.mem_cons_of_mem _ hy)⟩
theorem depth_rows : ∀ zs : List (Addr × List Str), PyData.depthAll (rowsD zs) ≤ 4
  | [] => by unfold rowsD; simp [PyData.depthAll]
  | z :: zs => by
    have h1 := depth_rows zs
    have h2 := depth_strs z.2
    show PyData.depthAll (PyData.list (z.2.map PyData.str) :: rowsD zs) ≤ 4
    simp only [PyData.depthAll, PyData.depth]
    omega
theorem shaped_rows (zs : List (Addr × List Str)) (h : ∀ z ∈ zs, ∀ x ∈ z.2, Wd x) : SeqAt.shaped (.list (rowsD zs)) = true := by
  have h1 := depth_rows zs
  have h2 : PyData.depth (.list (rowsD zs)) ≤ 64 := by
    simp only [PyData.depth]
    omega
  show (PyData.canLay0 (.list (rowsD zs)) && decide (PyData.depth (.list (rowsD zs)) ≤ 64)) = true
  rw [Bool.and_eq_true]
  exact ⟨by simp only [PyData.canLay0]; exact lay_rows zs h, decide_eq_true h2⟩
theorem any_rows (row : List Str) : ∀ zs : List (Addr × List Str), ((rowsD zs).any fun z => PyData.eqv z (.list (row.map PyData.str))) = decide (row ∈ zs.map (·.2))
  | [] => by simp [rowsD]
  | z :: zs => by
    have ih := any_rows row zs
    show (PyData.eqv (.list (z.2.map PyData.str)) (.list (row.map PyData.str)) || ((rowsD zs).any fun z => PyData.eqv z (.list (row.map PyData.str)))) = _
    rw [ih, eqv_strs, ← Bool.decide_or]
    refine decide_eq_decide.mpr ?_
    rw [List.map_cons, List.mem_cons]
    exact or_congr ⟨fun e => e.symm, fun e => e.symm⟩ Iff.rfl
theorem cut_upto (xs : List V) (j : Nat) : cutV xs none (some (j : Int)) = xs.take j := by
  by_cases c : j ≤ xs.length
  · exact cut_to _ _ c
  · unfold cutV
    have e1 : HT.sIx xs.length 0 none = 0 := rfl
    have e2 : HT.sIx xs.length xs.length (some (j : Int)) = xs.length := by rw [HT.sIx_nat]; omega
    rw [e1, e2, List.drop_zero, List.take_of_length_le (by omega), List.take_of_length_le (by omega)]
end KT
set_option Elab.async false
set_option linter.all false
set_option maxRecDepth 100000
set_option maxHeartbeats 4000000
set_option pp.maxSteps 900
namespace KT
open PySem L2 PyProof.Rows DTp TxS
section
variable {P : Program} {w : World} {K : PySem.W.Frag} {mg : Str → Option Value} {base : Heap} {C S : Addr}
theorem scOppSet : FnScope ["setting"] ["setting"] (defScope pOppSet) := ⟨rfl, rfl, rfl, by decide +kernel, rfl, by decide +kernel, by decide +kernel⟩
theorem ok_oppSet {g : Addr} {fd : FuncData} (F : Fun K "opposite_setting" "opposite_setting" pOppSet g fd) (TS : STx K mg S) (M : LogC P w K mg base S C) (SM : SMk P w K mg base S C) (O : Cee P w K mg base 6 "opposite" ["kinds"] (spOpp C)) : FnOk P w K mg base CX0 9 g fd ["setting"] (spOppSet S C) := by
  refine F.ok scOppSet (fun vs H Q E h => ?_) (fun cdv A outer s H vs Q E hr h => ?_)
  · obtain ⟨A, ws, f, dl, tw, rfl, _⟩ := h
    rfl
  · obtain ⟨A0, ws, f, dl, tw, rfl, st, k⟩ := h
    refine ⟨_, pss_cons (ps_expr (pe_c M.cs hr rfl (pa_cons (pv 0) pa_nil)))
      (pss_one (ps_ret (pe_setting SM TS.mgS hr rfl (pa_cons (pe_c O hr rfl (pa_cons (pe_m0 M.knd TS.cl hr (pv 0)) pa_nil)) (pa_cons (pe_m0 M.ded TS.cl hr (pv 0)) (pa_cons (pe_m0 M.twi TS.cl hr (pv 0)) pa_nil)))))), ?_⟩
    refine ⟨_, rfl, A0, ws, f, dl, tw, rfl, st, ?_⟩
    refine ⟨_, rfl, A0.q, A0.dx, _, rfl, st.ob, sflds_no _ _ _ (by decide +kernel) (by decide +kernel) (by decide +kernel), A0, ws, f, dl, tw, rfl, st, ?_⟩
    refine ⟨A0.p, ws, f, rfl, st.kdAt, fun q H1 s1 hq0 kd1 => ?_⟩
    have st1 := st.mono s1
    refine ⟨_, rfl, A0.q, A0.dx, _, rfl, st1.ob, sflds_no _ _ _ (by decide +kernel) (by decide +kernel) (by decide +kernel), A0, ws, f, dl, tw, rfl, st1, fun d H2 s2 hd0 hd => ?_⟩
    have st2 := st1.mono s2
    refine ⟨_, rfl, A0.q, A0.dx, _, rfl, st2.ob, sflds_no _ _ _ (by decide +kernel) (by decide +kernel) (by decide +kernel), A0, ws, f, dl, tw, rfl, st2, fun t H3 s3 ht0 ht => ?_⟩
    obtain ⟨kx, kd, kl, kin⟩ := (kd1.mono s2).mono s3
    exact mk_setting kin (s3 _ _ hd) st.ok (.refl _) st.asc ht ⟨st.tok.asc, st.tok.sq⟩ fun x dx d2 l2 H' sn s4 => k ⟨x, dx, q, kx, kd, kl, d2, l2⟩ H' sn.1 (s1.trans (s2.trans (s3.trans s4)))
end
end KT
set_option Elab.async false
set_option linter.all false
set_option maxRecDepth 100000
set_option maxHeartbeats 2000000
set_option pp.maxSteps 900
namespace KT
open PySem L2 PyProof.Rows DTp TxS
/-- the one row, a stretch of it doubled, is the other -/
def DbAt (f : Str → Str → Str) (dl : List (Str × Str)) (tw one other : List Str) (m i : Nat) : Prop := other = one.take (i + m) ++ one.drop i ∧ lp f (kds dl ((one.take (i + m)).drop i)) ∈ tw
def Dbd (f : Str → Str → Str) (dl : List (Str × Str)) (tw one other : List Str) : Prop := ∃ i m, 0 < m ∧ i + m ≤ one.length ∧ other.length = one.length + m ∧ DbAt f dl tw one other m i
def sp2L (S C : Addr) : Sp := fun vs H Q _ => ∃ (A : SA) (ws : List Str) (f : Str → Str → Str) (dl : List (Str × Str)) (tw : List Str) (r1 r2 : Addr) (row1 row2 : List Str), vs = [.ref A.q, .ref r1, .ref r2] ∧ StIn S C H A ws f dl tw ∧ LogAt dl H r1 row1 ∧ LogAt dl H r2 row2 ∧ ∀ H', L2.Same H H' → Q .non H'
def spIsDb (S C : Addr) : Sp := fun vs H Q _ => ∃ (A : SA) (ws : List Str) (f : Str → Str → Str) (dl : List (Str × Str)) (tw : List Str) (r1 r2 : Addr) (row1 row2 : List Str), vs = [.ref A.q, .ref r1, .ref r2] ∧ StIn S C H A ws f dl tw ∧ LogAt dl H r1 row1 ∧ LogAt dl H r2 row2 ∧ ∀ (b : Bool) H', L2.Same H H' → (b = true ↔ Dbd f dl tw row1 row2) → Q (.bl b) H'
def spLDb : Sp := fun vs H Q _ => ∃ (s td dd tl : Addr) (ws : List Str) (f : Str → Str → Str) (dl : List (Str × Str)) (tw : List Str) (r1 r2 : Addr) (row1 row2 : List Str), vs = [.ref s, .ref r1, .ref r2] ∧ SetAt H s td dd tl ws f dl tw ∧ LogAt dl H r1 row1 ∧ LogAt dl H r2 row2 ∧ ∀ (b : Bool) H', L2.Same H H' → (b = true ↔ Dbd f dl tw row1 row2) → Q (.bl b) H'
theorem db_cut {one other : List Str} {m i : Nat} (h : i + m ≤ one.length) (l : other.length = one.length + m) : (other = one.take (i + m) ++ one.drop i) ↔ (one.take (i + m) = other.take (i + m) ∧ one.drop i = other.drop (i + m)) := by
  constructor
  · intro e
    have lt : (one.take (i + m)).length = i + m := by rw [List.length_take]; omega
    constructor
    · rw [e, List.take_left' lt]
    · rw [e, List.drop_left' lt]
  · rintro ⟨e1, e2⟩
    rw [e1, e2, List.take_append_drop]
theorem db_four {one : List Str} {m i : Nat} (h : i + m ≤ one.length) : one.take i ++ (one.take (i + m)).drop i ++ (one.take (i + m)).drop i ++ one.drop (i + m) = one.take (i + m) ++ one.drop i := by
  have e1 : one.take i ++ (one.take (i + m)).drop i = one.take (i + m) := by
    have := List.take_append_drop i (one.take (i + m))
    rw [List.take_take, Nat.min_eq_left (by omega)] at this
    exact this
  have e2 : (one.take (i + m)).drop i ++ one.drop (i + m) = one.drop i := by
    have := List.take_append_drop (i + m) one
    rw [← List.drop_append_of_le_length (by rw [List.length_take]; omega), this]
  rw [e1, List.append_assoc, e2]
theorem Dbd.of {f : Str → Str → Str} {dl : List (Str × Str)} {tw one other : List Str} {m : Nat} (l : other.length = one.length + m) (m0 : 0 < m) (mn : m ≤ one.length) : Dbd f dl tw one other ↔ ∃ i, i < one.length - m + 1 ∧ DbAt f dl tw one other m i := by
  constructor
  · rintro ⟨i, m', h0, h1, h2, h3⟩
    obtain rfl : m = m' := by omega
    exact ⟨i, by omega, h3⟩
  · rintro ⟨i, h, h3⟩
    exact ⟨i, m, m0, by omega, l, h3⟩
theorem Dbd.no {f : Str → Str → Str} {dl : List (Str × Str)} {tw one other : List Str} (h : ¬ (one.length < other.length ∧ other.length ≤ one.length + one.length)) : ¬ Dbd f dl tw one other := by
  rintro ⟨i, m, h0, h1, h2, h3⟩
  omega
section
variable {P : Program} {w : World} {K : PySem.W.Frag} {mg : Str → Option Value} {base : Heap} {C S G : Addr}
abbrev nTwoL : List Str := ["setting", "one", "other"]
theorem scTwoL : FnScope nTwoL ["setting", "one", "other"] (defScope sTwoL) := ⟨rfl, rfl, rfl, by decide +kernel, rfl, by decide +kernel, by decide +kernel⟩
theorem ok_twoL {g : Addr} {fd : FuncData} (F : Fun K "check_two_logs" "check_two_logs" sTwoL g fd) (MS : Cee P w K mg base 1 "check_setting" ["setting"] (spCheckSet S C)) (ML : Cee P w K mg base 3 "check_log" ["setting", "log"] (spCheckLog S C)) : FnOk P w K mg base CX0 4 g fd ["setting", "one", "other"] (sp2L S C) := by
  refine F.ok scTwoL (fun vs H Q E h => ?_) (fun cdv A outer s H vs Q E hr h => ?_)
  · obtain ⟨A, ws, f, dl, tw, r1, r2, row1, row2, rfl, _⟩ := h
    rfl
  · obtain ⟨A0, ws, f, dl, tw, r1, r2, row1, row2, rfl, st, lg1, lg2, k⟩ := h
    have nd := scTwoL.nd
    refine ⟨_, pss_cons (ps_expr (pe_c MS hr rfl (pa_cons (pv 0) (pa_nil))))
      (pss_cons (ps_expr (pe_c ML hr rfl (pa_cons (pv 0) (pa_cons (pv 1) (pa_nil)))))
      (pss_one (ps_expr (pe_c ML hr rfl (pa_cons (pv 0) (pa_cons (pv 2) (pa_nil))))))), ?_⟩
    refine ⟨_, rfl, A0, ws, f, dl, tw, rfl, st, ?_⟩
    refine ⟨_, rfl, _, rfl, A0, ws, f, dl, tw, r1, row1, rfl, st, lg1, fun H1 s1 => ?_⟩
    exact ⟨_, rfl, _, rfl, A0, ws, f, dl, tw, r2, row2, rfl, st.mono s1, lg2.mono s1, fun H2 s2 => k _ (s1.trans s2)⟩
abbrev nIsDb : List Str := ["setting", "one", "other", "more", "twice", "first", "last"]
theorem scIsDb : FnScope nIsDb ["setting", "one", "other"] (defScope sIsDb) := ⟨rfl, rfl, rfl, by decide +kernel, rfl, by decide +kernel, by decide +kernel⟩
theorem ok_isDb {g : Addr} {fd : FuncData} (F : Fun K "is_doubling" "is_doubling" sIsDb g fd) (TS : STx K mg S) (B0 : Blt mg) (M2 : Cee P w K mg base 4 "check_two_logs" ["setting", "one", "other"] (sp2L S C)) (MT : Mee P w K mg base S 1 "twice" ["self"] (spSTwice S C)) (MK : Cee P w K mg base 6 "kind_of" ["setting", "log"] (spKindOf S C)) : FnOk P w K mg base CX0 7 g fd ["setting", "one", "other"] (spIsDb S C) := by
  refine F.ok scIsDb (fun vs H Q E h => ?_) (fun cdv A outer s H vs Q E hr h => ?_)
  · obtain ⟨A, ws, f, dl, tw, r1, r2, row1, row2, rfl, _⟩ := h
    rfl
  · obtain ⟨A0, ws, f, dl, tw, r1, r2, row1, row2, rfl, st, lg1, lg2, k⟩ := h
    have nd := scIsDb.nd
    refine ⟨_, pss_cons (ps_expr (pe_c M2 hr rfl (pa_cons (pv 0) (pa_cons (pv 1) (pa_cons (pv 2) (pa_nil))))))
      (pss_cons (ps_set (i := 3) nd rfl (Or.inl rfl) (pe_op op_sub (pe_callB call_len_seq (by rfl) B0.len PySem.boot_len (pa_cons (pv 2) (pa_nil))) (pe_callB call_len_seq (by rfl) B0.len PySem.boot_len (pa_cons (pv 1) (pa_nil)))))
      (pss_cons (ps_if (pt_cut (pt_not (pt_chain op_lt op_le pe_int (pv 3) (pe_callB call_len_seq (by rfl) B0.len PySem.boot_len (pa_cons (pv 1) (pa_nil)))))) (pss_one (ps_ret (pe_bl))) pss_nil)
      (pss_cons (ps_set (i := 4) nd rfl (Or.inl rfl) (pe_m0 MT TS.cl hr (pv 0)))
      (pss_cons (ps_for PassesOwn.never rfl (pi_range1 rfl B0.range (pa_cons (pe_op op_add (pe_op op_sub (pe_callB call_len_seq (by rfl) B0.len PySem.boot_len (pa_cons (pv 1) (pa_nil))) (pv 3)) (pe_int)) (pa_nil))) (pg_name (i := 5) nd rfl (Or.inl rfl)) (pss_cons (ps_set (i := 6) nd rfl (Or.inl rfl) (pe_op op_add (pv 5) (pv 3)))
      (pss_one (ps_if (pt_cut <| PW.pt (pw_and (pt_cmpR (op_eqD (hu65' hr)) (pe_slice sl_list (pv 1) (po_none) (po_some (pv 6))) (pe_slice sl_list (pv 2) (po_none) (po_some (pv 6))) (nomark _)) (pw_and (pt_cmpR (op_eqD (hu65' hr)) (pe_slice sl_list (pv 1) (po_some (pv 5)) (po_none)) (pe_slice sl_list (pv 2) (po_some (pv 6)) (po_none)) (nomark _)) (pw_and1 (pt_cmpR op_in_seq (pe_c MK hr rfl (pa_cons (pv 0) (pa_cons (pe_slice sl_list (pv 1) (po_some (pv 5)) (po_some (pv 6))) (pa_nil)))) (pv 4) (by rfl)))))) (pss_one (ps_ret (pe_bl))) pss_nil))))
      (pss_one (ps_ret (pe_bl))))))), ?_⟩
    have ll1 : ((row1.map V.str).length : Nat) = row1.length := List.length_map _
    have ll2 : ((row2.map V.str).length : Nat) = row2.length := List.length_map _
    have wd := st.ok.wd
    refine ⟨_, rfl, _, rfl, _, rfl, A0, ws, f, dl, tw, r1, r2, row1, row2, rfl, st, lg1, lg2, fun H1 s1 => ?_⟩
    refine ⟨_, rfl, r2, _, rfl, .inl (SqL.of (s1 _ _ lg2.at')), _, rfl, r1, _, rfl, .inl (SqL.of (s1 _ _ lg1.at')), _, _, rfl, rfl, ?_⟩
    refine at_name (σ' := [some (.ref A0.q), some (.ref r1), some (.ref r2), some (.int ((((row2.map V.str).length : Nat) : Int) - (((row1.map V.str).length : Nat) : Int))), none, none, none]) rfl ?_
    rw [ll1, ll2]
    obtain ⟨yes, ey⟩ : ∃ yes : Bool, yes = decide (row1.length < row2.length ∧ row2.length ≤ row1.length + row1.length) := ⟨_, rfl⟩
    refine ⟨fun b H' => b = (!yes) ∧ H' = H1, ?_, ?_⟩
    · refine ⟨_, rfl, _, _, rfl, rfl, _, rfl, ite2 (fun h => ?_) (fun h => ?_)⟩
      · have h := of_decide_eq_true h
        refine ⟨_, rfl, r1, _, rfl, .inl (SqL.of (s1 _ _ lg1.at')), _, _, rfl, rfl, _, rfl, ?_, rfl⟩
        rw [ll1, ey]
        congr 1
        exact decide_eq_decide.mpr ⟨fun h2 => by omega, fun h2 => by omega⟩
      · have h : ¬ _ := fun e => h (decide_eq_true e)
        refine ⟨_, rfl, ?_, rfl⟩
        rw [ey, decide_eq_false (fun e => h (by omega))]
    rintro b _ ⟨rfl, rfl⟩
    cases yes with
    | false =>
      refine iteT (k false _ s1 ⟨fun h => (by cases h), fun h => absurd h (Dbd.no (of_decide_eq_false ey.symm))⟩)
    | true =>
      obtain ⟨g1, g2⟩ := of_decide_eq_true ey.symm
      refine iteF ?_
      obtain ⟨m, em⟩ : ∃ m, m = row2.length - row1.length := ⟨_, rfl⟩
      have l2 : row2.length = row1.length + m := by omega
      have emI : ((row2.length : Nat) : Int) - ((row1.length : Nat) : Int) = ((m : Nat) : Int) := by omega
      rw [emI]
      have st1 := st.mono s1
      refine ⟨_, rfl, A0.q, A0.dx, _, rfl, st1.ob, sflds_no _ _ _ (by decide +kernel) (by decide +kernel) (by decide +kernel), A0, ws, f, dl, tw, rfl, st1, fun t H2 s2 ht0 ht => ?_⟩
      refine at_name (σ' := [some (.ref A0.q), some (.ref r1), some (.ref r2), some (.int (m : Nat)), some (.ref t), none, none]) rfl ?_
      have s02 := s1.trans s2
      have lgA := lg1.mono s02
      have lgB := lg2.mono s02
      have st2 := st.mono s02
      refine ⟨_, rfl, r1, _, rfl, .inl (SqL.of lgA.at'), _, rfl, _, _, rfl, rfl, _, _, rfl, rfl, _, rfl, (by rw [ll1]; have := lg1.few; omega), (by rw [ll1]; have := lg1.few; omega), ?_⟩
      have en : (((row1.map V.str).length : Nat) : Int) - ((m : Nat) : Int) + 1 = ((row1.length - m + 1 : Nat) : Int) := by rw [ll1]; omega
      rw [en]
      refine for_range (lo := 0) (n := row1.length - m + 1) (fun i σ H' => ∃ (x5 x6 : Option V), σ = [some (.ref A0.q), some (.ref r1), some (.ref r2), some (.int (m : Nat)), some (.ref t), x5, x6] ∧ L2.Same H2 H' ∧ ∀ i', i' < i → ¬ DbAt f dl tw row1 row2 m i') ?_ ?_ ?_
      · exact ⟨_, _, rfl, fun _ _ e => e, fun i' h => absurd h (Nat.not_lt_zero _)⟩
      · rintro i σ H3 hi ⟨x5, x6, rfl, s3, no⟩
        rw [show (0 : Int) + (i : Nat) = ((i : Nat) : Int) by omega]
        refine at_name (σ' := [some (.ref A0.q), some (.ref r1), some (.ref r2), some (.int (m : Nat)), some (.ref t), some (.int (i : Nat)), x6]) rfl ?_
        refine ⟨_, rfl, _, rfl, _, _, rfl, rfl, ?_⟩
        refine at_name (σ' := [some (.ref A0.q), some (.ref r1), some (.ref r2), some (.int (m : Nat)), some (.ref t), some (.int (i : Nat)), some (.int (((i : Nat) : Int) + ((m : Nat) : Int)))]) rfl ?_
        have ei : ((i : Nat) : Int) + ((m : Nat) : Int) = ((i + m : Nat) : Int) := by omega
        rw [ei]
        have him : i + m ≤ row1.length := by omega
        have lgC := lgA.mono s3
        have lgD := lgB.mono s3
        have st3 := st2.mono s3
        have ht3 := s3 _ _ ht
        have k1 : ∀ x ∈ row1, Wd x := fun x hx => wd x (lg1.mem x hx)
        have k2 : ∀ x ∈ row2, Wd x := fun x hx => wd x (lg2.mem x hx)
        refine ⟨fun b H' => L2.Same H3 H' ∧ (b = true ↔ DbAt f dl tw row1 row2 m i), ?_, ?_⟩
        · refine ⟨_, rfl, _, rfl, _, rfl, r1, _, rfl, SqL.of lgC.at', fun p1 p10 => ?_⟩
          rw [cut_to _ _ (by rw [ll1]; omega), ← List.map_take]
          have t1 := Same.new (H := H3) (o := .lst ((row1.take (i + m)).map V.str)) p10
          have hp1 : upd H3 p1 (.lst ((row1.take (i + m)).map V.str)) p1 = _ := upd_same
          generalize upd H3 p1 (.lst ((row1.take (i + m)).map V.str)) = G1 at t1 hp1 ⊢
          refine ⟨_, rfl, _, rfl, _, rfl, r2, _, rfl, SqL.of (t1 _ _ lgD.at'), fun p2 p20 => ?_⟩
          rw [cut_to _ _ (by rw [ll2]; omega), ← List.map_take]
          have t2 := Same.new (H := G1) (o := .lst ((row2.take (i + m)).map V.str)) p20
          have hp2 : upd G1 p2 (.lst ((row2.take (i + m)).map V.str)) p2 = _ := upd_same
          generalize upd G1 p2 (.lst ((row2.take (i + m)).map V.str)) = G2 at t2 hp2 ⊢
          have t02 := t1.trans t2
          refine ⟨_, _, dp_strs (SqL.of (t2 _ _ hp1)), dp_strs (SqL.of hp2), shaped_strs _ (fun x hx => k1 x (List.mem_of_mem_take hx)), shaped_strs _ (fun x hx => k2 x (List.mem_of_mem_take hx)), ?_⟩
          rw [eqv_strs]
          refine ⟨_, rfl, ite2 (fun h1 => ?_) (fun h1 => ?_)⟩
          rotate_left 1
          · exact ⟨t02, fun h => absurd h (by simpa using h1), fun h => absurd (decide_eq_true ((db_cut him l2).mp h.1).1) h1⟩
          have h1 := of_decide_eq_true h1
          refine ⟨_, rfl, _, rfl, _, rfl, r1, _, rfl, SqL.of (t02 _ _ lgC.at'), fun p3 p30 => ?_⟩
          rw [cut_from _ _ (by rw [ll1]; omega), ← List.map_drop]
          have t3 := Same.new (H := G2) (o := .lst ((row1.drop i).map V.str)) p30
          have hp3 : upd G2 p3 (.lst ((row1.drop i).map V.str)) p3 = _ := upd_same
          generalize upd G2 p3 (.lst ((row1.drop i).map V.str)) = G3 at t3 hp3 ⊢
          have t03 := t02.trans t3
          refine ⟨_, rfl, _, rfl, _, rfl, r2, _, rfl, SqL.of (t03 _ _ lgD.at'), fun p4 p40 => ?_⟩
          rw [cut_from _ _ (by rw [ll2]; omega), ← List.map_drop]
          have t4 := Same.new (H := G3) (o := .lst ((row2.drop (i + m)).map V.str)) p40
          have hp4 : upd G3 p4 (.lst ((row2.drop (i + m)).map V.str)) p4 = _ := upd_same
          generalize upd G3 p4 (.lst ((row2.drop (i + m)).map V.str)) = G4 at t4 hp4 ⊢
          have t04 := t03.trans t4
          refine ⟨_, _, dp_strs (SqL.of (t4 _ _ hp3)), dp_strs (SqL.of hp4), shaped_strs _ (fun x hx => k1 x (List.mem_of_mem_drop hx)), shaped_strs _ (fun x hx => k2 x (List.mem_of_mem_drop hx)), ?_⟩
          rw [eqv_strs]
          refine ⟨_, rfl, ite2 (fun h2 => ?_) (fun h2 => ?_)⟩
          rotate_left 1
          · exact ⟨t04, fun h => absurd h (by simpa using h2), fun h => absurd (decide_eq_true ((db_cut him l2).mp h.1).2) h2⟩
          have h2 := of_decide_eq_true h2
          refine ⟨_, rfl, _, rfl, _, rfl, _, rfl, _, rfl, _, rfl, r1, _, rfl, SqL.of (t04 _ _ lgC.at'), fun p5 p50 => ?_⟩
          rw [cut_mid _ _ _ (by omega) (by rw [ll1]; omega), ← List.map_take, ← List.map_drop]
          have t5 := Same.new (H := G4) (o := .lst (((row1.take (i + m)).drop i).map V.str)) p50
          have hp5 : upd G4 p5 (.lst (((row1.take (i + m)).drop i).map V.str)) p5 = _ := upd_same
          generalize upd G4 p5 (.lst (((row1.take (i + m)).drop i).map V.str)) = G5 at t5 hp5 ⊢
          have t05 := t04.trans t5
          have few1 := lg1.few
          refine ⟨A0, ws, f, dl, tw, p5, _, rfl, st3.mono t05, ⟨hp5, by rw [List.length_drop, List.length_take]; omega, fun x hx => lg1.mem x (List.mem_of_mem_take (List.mem_of_mem_drop hx))⟩, (fun e => by
            have := congrArg List.length e
            rw [List.length_drop, List.length_take, List.length_nil] at this
            omega), fun G6 t6 => ?_⟩
          refine ⟨_, rfl, t, _, rfl, .inl (SqL.of (t6 _ _ (t05 _ _ ht3))), rfl, flat_strs _, ?_⟩
          rw [if_neg Bool.false_ne_true, inV_strs]
          refine ⟨_, rfl, t05.trans t6, fun h => ⟨(db_cut him l2).mpr ⟨h1, h2⟩, of_decide_eq_true h⟩, fun h => decide_eq_true h.2⟩
        rintro b H4 ⟨s4, hb⟩
        refine ite2 (fun h => ?_) (fun h => ?_)
        · exact k true H4 (s02.trans (s3.trans s4)) ⟨fun _ => (Dbd.of l2 (by omega) (by omega)).mpr ⟨i, hi, hb.mp h⟩, fun _ => rfl⟩
        · refine ⟨_, _, rfl, s3.trans s4, fun i' hi' => ?_⟩
          by_cases c : i' < i
          · exact no i' c
          · obtain rfl : i' = i := by omega
            exact fun q => h (hb.mpr q)
      · rintro σ H3 ⟨x5, x6, rfl, s3, no⟩
        exact k false H3 (s02.trans s3) ⟨fun h => (by cases h), fun h => by
          obtain ⟨i, hi, q⟩ := (Dbd.of l2 (by omega) (by omega)).mp h
          exact absurd q (no i hi)⟩
abbrev nLDb : List Str := ["_law_setting_here", "_law_one", "_law_other", "_law_size", "_law_first", "_law_part"]
theorem scLDb : FnScope nLDb ["_law_setting_here", "_law_one", "_law_other"] (defScope sLDb) := ⟨rfl, rfl, rfl, by decide +kernel, rfl, by decide +kernel, by decide +kernel⟩
theorem ok_lDb {g : Addr} {fd : FuncData} (F : Fun K "_law_is_doubled" "_law_is_doubled" sLDb g fd) (B0 : Blt mg) (MM : Cee P w K mg base 2 "_law_may_twice" ["_law_setting_here", "_law_log_here"] spMay) : FnOk P w K mg base CX0 3 g fd ["_law_setting_here", "_law_one", "_law_other"] spLDb := by
  refine F.ok scLDb (fun vs H Q E h => ?_) (fun cdv A outer s H vs Q E hr h => ?_)
  · obtain ⟨s, td, dd, tl, ws, f, dl, tw, r1, r2, row1, row2, rfl, _⟩ := h
    rfl
  · obtain ⟨s0, td, dd, tl, ws, f, dl, tw, r1, r2, row1, row2, rfl, se, lg1, lg2, k⟩ := h
    have nd := scLDb.nd
    refine ⟨_, pss_cons (ps_set (i := 3) nd rfl (Or.inl rfl) (pe_op op_sub (pe_callB call_len_seq (by rfl) B0.len PySem.boot_len (pa_cons (pv 2) (pa_nil))) (pe_callB call_len_seq (by rfl) B0.len PySem.boot_len (pa_cons (pv 1) (pa_nil)))))
      (pss_cons (ps_for PassesOwn.never rfl (pi_range1 rfl B0.range (pa_cons (pe_cutE (pe_ifExp (pt_chain op_lt op_le pe_int (pv 3) (pe_callB call_len_seq (by rfl) B0.len PySem.boot_len (pa_cons (pv 1) (pa_nil)))) (pe_op op_add (pe_op op_sub (pe_callB call_len_seq (by rfl) B0.len PySem.boot_len (pa_cons (pv 1) (pa_nil))) (pv 3)) (pe_int)) pe_int)) (pa_nil))) (pg_name (i := 4) nd rfl (Or.inl rfl)) (pss_cons (ps_set (i := 5) nd rfl (Or.inl rfl) (pe_slice sl_list (pv 1) (po_some (pv 4)) (po_some (pe_op op_add (pv 4) (pv 3)))))
      (pss_one (ps_if (pt_cut <| PW.pt (pw_and (pt_cmpR (op_eqD (hu65' hr)) (pe_op op_cat (pe_op op_cat (pe_op op_cat (pe_slice sl_list (pv 1) (po_none) (po_some (pv 4))) (pv 5)) (pv 5)) (pe_slice sl_list (pv 1) (po_some (pe_op op_add (pv 4) (pv 3))) (po_none))) (pv 2) (nomark _)) (pw_and1 (pt_val (pe_c MM hr rfl (pa_cons (pv 0) (pa_cons (pv 5) (pa_nil)))))))) (pss_one (ps_ret (pe_bl))) pss_nil))))
      (pss_one (ps_ret (pe_bl)))), ?_⟩
    have ll1 : ((row1.map V.str).length : Nat) = row1.length := List.length_map _
    have ll2 : ((row2.map V.str).length : Nat) = row2.length := List.length_map _
    have wd := se.ok.wd
    have few1 := lg1.few
    refine ⟨_, rfl, r2, _, rfl, .inl (SqL.of lg2.at'), _, rfl, r1, _, rfl, .inl (SqL.of lg1.at'), _, _, rfl, rfl, ?_⟩
    refine at_name (σ' := [some (.ref s0), some (.ref r1), some (.ref r2), some (.int ((((row2.map V.str).length : Nat) : Int) - (((row1.map V.str).length : Nat) : Int))), none, none]) rfl ?_
    rw [ll1, ll2]
    obtain ⟨m, em⟩ : ∃ m, m = row2.length - row1.length := ⟨_, rfl⟩
    obtain ⟨n, en⟩ : ∃ n, n = if row1.length < row2.length ∧ row2.length ≤ row1.length + row1.length then row1.length - m + 1 else 0 := ⟨_, rfl⟩
    refine ⟨fun v H' => v = .int (n : Nat) ∧ H = H', ?_, ?_⟩
    · refine ⟨_, rfl, _, _, rfl, rfl, _, rfl, ite2 (fun h => ?_) (fun h => ?_)⟩
      · have h := of_decide_eq_true h
        refine ⟨_, rfl, r1, _, rfl, .inl (SqL.of lg1.at'), _, _, rfl, rfl, _, rfl, ite2 (fun h2 => ?_) (fun h2 => ?_)⟩
        · have h2 := of_decide_eq_true h2
          rw [ll1] at h2
          refine ⟨_, rfl, r1, _, rfl, .inl (SqL.of lg1.at'), _, rfl, _, _, rfl, rfl, _, _, rfl, rfl, ?_, rfl⟩
          have en2 : n = row1.length - m + 1 := by rw [en]; exact if_pos ⟨by omega, by omega⟩
          have q1 : row1.length + m = row2.length := by omega
          have q2 : m ≤ row1.length := by omega
          rw [en2, ll1]
          have q3 : ((row1.length : Nat) : Int) - (((row2.length : Nat) : Int) - ((row1.length : Nat) : Int)) + 1 = ((row1.length - m + 1 : Nat) : Int) := by omega
          exact congrArg V.int q3
        · have h2 : ¬ _ := fun e => h2 (decide_eq_true e)
          rw [ll1] at h2
          refine ⟨?_, rfl⟩
          have en2 : n = 0 := by rw [en]; exact if_neg (fun e => h2 (by omega))
          rw [en2]
          rfl
      · have h : ¬ _ := fun e => h (decide_eq_true e)
        refine ⟨_, rfl, iteF ⟨?_, rfl⟩⟩
        have en2 : n = 0 := by rw [en]; exact if_neg (fun e => h (by omega))
        rw [en2]
        rfl
    rintro _ _ ⟨rfl, rfl⟩
    have nle : n ≤ row1.length + 1 := by
      rw [en]
      split
      · omega
      · omega
    refine ⟨_, rfl, by omega, by omega, ?_⟩
    rw [Int.toNat_natCast]
    refine for_range (lo := 0) (n := n) (fun i σ H' => ∃ (x4 x5 : Option V), σ = [some (.ref s0), some (.ref r1), some (.ref r2), some (.int (((row2.length : Nat) : Int) - ((row1.length : Nat) : Int))), x4, x5] ∧ L2.Same H H' ∧ ∀ i', i' < i → ¬ DbAt f dl tw row1 row2 m i') ?_ ?_ ?_
    · exact ⟨_, _, rfl, fun _ _ e => e, fun i' h => absurd h (Nat.not_lt_zero _)⟩
    · rintro i σ H3 hi ⟨x4, x5, rfl, s3, no⟩
      have gg : row1.length < row2.length ∧ row2.length ≤ row1.length + row1.length := by
        by_cases c : row1.length < row2.length ∧ row2.length ≤ row1.length + row1.length
        · exact c
        · rw [en, if_neg c] at hi; omega
      have hi2 : i < row1.length - m + 1 := by rw [en, if_pos gg] at hi; exact hi
      obtain ⟨g1, g2⟩ := gg
      have l2 : row2.length = row1.length + m := by omega
      have emI : ((row2.length : Nat) : Int) - ((row1.length : Nat) : Int) = ((m : Nat) : Int) := by omega
      rw [emI]
      rw [show (0 : Int) + (i : Nat) = ((i : Nat) : Int) by omega]
      refine at_name (σ' := [some (.ref s0), some (.ref r1), some (.ref r2), some (.int (m : Nat)), some (.int (i : Nat)), x5]) rfl ?_
      have ei : ((i : Nat) : Int) + ((m : Nat) : Int) = ((i + m : Nat) : Int) := by omega
      have him : i + m ≤ row1.length := by omega
      have lgC := lg1.mono s3
      have lgD := lg2.mono s3
      have k1 : ∀ x ∈ row1, Wd x := fun x hx => wd x (lg1.mem x hx)
      have k2 : ∀ x ∈ row2, Wd x := fun x hx => wd x (lg2.mem x hx)
      refine ⟨_, rfl, _, rfl, _, rfl, _, rfl, _, rfl, _, _, rfl, rfl, _, rfl, r1, _, rfl, SqL.of lgC.at', fun pt pt0 => ?_⟩
      rw [ei, cut_mid _ _ _ (by omega) (by rw [ll1]; omega), ← List.map_take, ← List.map_drop]
      have t0 := Same.new (H := H3) (o := .lst (((row1.take (i + m)).drop i).map V.str)) pt0
      have hpt : upd H3 pt (.lst (((row1.take (i + m)).drop i).map V.str)) pt = _ := upd_same
      generalize upd H3 pt (.lst (((row1.take (i + m)).drop i).map V.str)) = G0 at t0 hpt ⊢
      refine at_name (σ' := [some (.ref s0), some (.ref r1), some (.ref r2), some (.int (m : Nat)), some (.int (i : Nat)), some (.ref pt)]) rfl ?_
      have sz : ∀ xs : List Str, (xs.map V.str).length = xs.length := fun xs => List.length_map _
      refine ⟨fun b H' => L2.Same G0 H' ∧ (b = true ↔ DbAt f dl tw row1 row2 m i), ?_, ?_⟩
      · refine ⟨_, rfl, _, rfl, _, rfl, r1, _, rfl, SqL.of (t0 _ _ lgC.at'), fun p1 p10 => ?_⟩
        rw [cut_to _ _ (by rw [ll1]; omega), ← List.map_take]
        have t1 := Same.new (H := G0) (o := .lst ((row1.take i).map V.str)) p10
        have hp1 : upd G0 p1 (.lst ((row1.take i).map V.str)) p1 = _ := upd_same
        generalize upd G0 p1 (.lst ((row1.take i).map V.str)) = G1 at t1 hp1 ⊢
        refine ⟨_, rfl, p1, pt, _, _, rfl, rfl, hp1, t1 _ _ hpt, (by rw [sz, sz, List.length_drop, List.length_take, List.length_take, sizeLine_eq]; omega), fun p2 p20 => ?_⟩
        rw [← List.map_append]
        have t2 := Same.new (H := G1) (o := .lst ((row1.take i ++ (row1.take (i + m)).drop i).map V.str)) p20
        have hp2 : upd G1 p2 (.lst ((row1.take i ++ (row1.take (i + m)).drop i).map V.str)) p2 = _ := upd_same
        generalize upd G1 p2 (.lst ((row1.take i ++ (row1.take (i + m)).drop i).map V.str)) = G2 at t2 hp2 ⊢
        have t02 := t1.trans t2
        refine ⟨_, rfl, p2, pt, _, _, rfl, rfl, hp2, t02 _ _ hpt, (by rw [sz, sz, List.length_append, List.length_drop, List.length_take, List.length_take, sizeLine_eq]; omega), fun p3 p30 => ?_⟩
        rw [← List.map_append]
        have t3 := Same.new (H := G2) (o := .lst ((row1.take i ++ (row1.take (i + m)).drop i ++ (row1.take (i + m)).drop i).map V.str)) p30
        have hp3 : upd G2 p3 (.lst ((row1.take i ++ (row1.take (i + m)).drop i ++ (row1.take (i + m)).drop i).map V.str)) p3 = _ := upd_same
        generalize upd G2 p3 (.lst ((row1.take i ++ (row1.take (i + m)).drop i ++ (row1.take (i + m)).drop i).map V.str)) = G3 at t3 hp3 ⊢
        have t03 := t02.trans t3
        refine ⟨_, rfl, _, rfl, _, rfl, _, _, rfl, rfl, _, rfl, r1, _, rfl, SqL.of (t03 _ _ (t0 _ _ lgC.at')), fun p4 p40 => ?_⟩
        rw [ei, cut_from _ _ (by rw [ll1]; omega), ← List.map_drop]
        have t4 := Same.new (H := G3) (o := .lst ((row1.drop (i + m)).map V.str)) p40
        have hp4 : upd G3 p4 (.lst ((row1.drop (i + m)).map V.str)) p4 = _ := upd_same
        generalize upd G3 p4 (.lst ((row1.drop (i + m)).map V.str)) = G4 at t4 hp4 ⊢
        refine ⟨p3, p4, _, _, rfl, rfl, t4 _ _ hp3, hp4, (by rw [sz, sz, List.length_append, List.length_append, List.length_drop, List.length_take, List.length_take, List.length_drop, sizeLine_eq]; omega), fun p5 p50 => ?_⟩
        rw [← List.map_append, db_four him]
        have t5 := Same.new (H := G4) (o := .lst ((row1.take (i + m) ++ row1.drop i).map V.str)) p50
        have hp5 : upd G4 p5 (.lst ((row1.take (i + m) ++ row1.drop i).map V.str)) p5 = _ := upd_same
        generalize upd G4 p5 (.lst ((row1.take (i + m) ++ row1.drop i).map V.str)) = G5 at t5 hp5 ⊢
        have t05 : L2.Same G0 G5 := t03.trans (t4.trans t5)
        refine ⟨_, rfl, _, _, dp_strs (SqL.of hp5), dp_strs (SqL.of (t05 _ _ (t0 _ _ lgD.at'))), shaped_strs _ (fun x hx => ?_), shaped_strs _ k2, ?_⟩
        · rcases List.mem_append.mp hx with hx | hx
          · exact k1 x (List.mem_of_mem_take hx)
          · exact k1 x (List.mem_of_mem_drop hx)
        rw [eqv_strs]
        refine ⟨_, rfl, ite2 (fun h1 => ?_) (fun h1 => ?_)⟩
        rotate_left 1
        · exact ⟨t05, fun h => absurd h (by simpa using h1), fun h => absurd (decide_eq_true h.1.symm) h1⟩
        have h1 := of_decide_eq_true h1
        refine ⟨_, rfl, _, rfl, s0, td, dd, tl, ws, f, dl, tw, pt, _, rfl, se.mono (s3.trans (t0.trans t05)), ⟨t05 _ _ hpt, by rw [List.length_drop, List.length_take]; omega, fun x hx => lg1.mem x (List.mem_of_mem_take (List.mem_of_mem_drop hx))⟩, (fun e => by
          have := congrArg List.length e
          rw [List.length_drop, List.length_take, List.length_nil] at this
          omega), fun G6 t6 => ?_⟩
        refine ⟨_, rfl, t05.trans t6, fun h => ⟨h1.symm, of_decide_eq_true h⟩, fun h => decide_eq_true h.2⟩
      rintro b H4 ⟨s4, hb⟩
      refine ite2 (fun h => ?_) (fun h => ?_)
      · exact k true H4 (s3.trans (t0.trans s4)) ⟨fun _ => (Dbd.of l2 (by omega) (by omega)).mpr ⟨i, hi2, hb.mp h⟩, fun _ => rfl⟩
      · refine ⟨_, _, by rw [← emI], s3.trans (t0.trans s4), fun i' hi' => ?_⟩
        by_cases c : i' < i
        · exact no i' c
        · obtain rfl : i' = i := by omega
          exact fun q => h (hb.mpr q)
    · rintro σ H3 ⟨x4, x5, rfl, s3, no⟩
      refine k false H3 s3 ⟨fun h => (by cases h), fun h => ?_⟩
      by_cases c : row1.length < row2.length ∧ row2.length ≤ row1.length + row1.length
      · rw [if_pos c] at en
        obtain ⟨i, hi, q⟩ := (Dbd.of (m := m) (by omega) (by omega) (by omega)).mp h
        exact absurd q (no i (by omega))
      · exact absurd h (Dbd.no c)
end
end KT
set_option Elab.async false
set_option linter.all false
set_option maxRecDepth 100000
set_option maxHeartbeats 2000000
set_option pp.maxSteps 900
namespace KT
open PySem L2 PyProof.Rows DTp TxS
structure LRC (P : Program) (w : World) (K : PySem.W.Frag) (mg : Str → Option Value) (base : Heap) (S C : Addr) : Prop where
  db : Cee P w K mg base 3 "_law_doublings" ["_law_setting_here", "_law_log_here"] spDb
  hv : Cee P w K mg base 3 "_law_halvings" ["_law_setting_here", "_law_log_here"] spHv
  dbl : Cee P w K mg base 4 "doublings" ["setting", "log"] (spDbls S C)
  hvs : Cee P w K mg base 5 "halvings" ["setting", "log"] (spHvs S C)
  dblK : Kee P w K mg base 4 "doublings" ["setting", "log"] (spDbls S C) ["log", "setting"] revG
  hvsK : Kee P w K mg base 5 "halvings" ["setting", "log"] (spHvs S C) ["log", "setting"] revG
  exa : Cee P w K mg base 7 "_law_exact" ["_law_mine", "_law_theirs"] (spExact 6)
  opp : Cee P w K mg base 9 "opposite_setting" ["setting"] (spOppSet S C)
  log : Cee P w K mg base 4 "_law_log" ["_law_purse_here", "_law_setting_here", "_law_many"] spLog
  draw : DrawC P w K mg base
  ldb : Cee P w K mg base 3 "_law_is_doubled" ["_law_setting_here", "_law_one", "_law_other"] spLDb
  idb : Cee P w K mg base 7 "is_doubling" ["setting", "one", "other"] (spIsDb S C)
  idbK : Kee P w K mg base 7 "is_doubling" ["setting", "one", "other"] (spIsDb S C) ["other", "one", "setting"] revG
def spLR (S C : Addr) : Sp := fun vs H Q _ => ∃ (p s td dd tl r : Addr) (B : Int) (ws : List Str) (f : Str → Str → Str) (dl : List (Str × Str)) (tw : List Str) (A : SA) (row : List Str), vs = [.ref p, .ref s, .ref A.q, .ref r] ∧ PurseAt H p B ∧ 0 ≤ B ∧ B ≤ 900000 ∧ SetAt H s td dd tl ws f dl tw ∧ StIn S C H A ws f dl tw ∧ LogAt dl H r row ∧ row.length ≤ 10 ∧
  ∀ H', But p H H' → PurseAt H' p (B + 900) → Q (.bl true) H'
section
variable {P : Program} {w : World} {K : PySem.W.Frag} {mg : Str → Option Value} {base : Heap} {C S G : Addr}
abbrev nLR : List Str := ["_law_purse_here", "_law_setting_here", "_law_made_here", "_law_log_here", "_law_longer", "_law_shorter", "_law_held", "_law_spin", "_law_told", "_law_some", "_law_late", "_law_others", "_law_other", "_law_due"]
theorem scLR : FnScope nLR ["_law_purse_here", "_law_setting_here", "_law_made_here", "_law_log_here"] (defScope sLR) := ⟨rfl, rfl, rfl, by decide +kernel, rfl, by decide +kernel, by decide +kernel⟩
theorem ok_LR {g : Addr} {fd : FuncData} (F : Fun K "_law_log_right" "_law_log_right" sLR g fd) (B0 : Blt mg) (Z : Blp mg) (M : LRC P w K mg base S C) : FnOk P w K mg base CX0 10 g fd ["_law_purse_here", "_law_setting_here", "_law_made_here", "_law_log_here"] (spLR S C) := by
  refine F.ok scLR (fun vs H Q E h => ?_) (fun cdv A outer s H vs Q E hr h => ?_)
  · obtain ⟨p, s, td, dd, tl, r, B, ws, f, dl, tw, A, row, rfl, _⟩ := h
    rfl
  · obtain ⟨p, s0, td, dd, tl, r, B, ws, f, dl, tw, A0, row, rfl, hP, b0, b1, se, st, lg, l10, k⟩ := h
    have nd := scLR.nd
    refine ⟨_, pss_cons (ps_par3 (i := 4) (j := 5) (l := 6) rfl nd rfl rfl rfl (by decide) (by decide) (by decide) rfl rfl rfl (pa_cons (pe_c M.db hr rfl (pa_cons (pv 1) (pa_cons (pv 3) (pa_nil)))) (pa_cons (pe_c M.hv hr rfl (pa_cons (pv 1) (pa_cons (pv 3) (pa_nil)))) (pa_cons (pe_callTy call_list_of (by rfl) Z.list (by decide +kernel) (pa_cons (pv 3) (pa_nil))) (pa_nil)))) (by rfl))
      (pss_cons (ps_for PassesOwn.never rfl (pi_range1 rfl B0.range (pa_cons (pe_int) (pa_nil))) (pg_name (i := 7) nd rfl (Or.inl rfl)) (pss_cons (ps_set (i := 8) nd rfl (Or.inl rfl) (pe_lst (pa_cons (pe_ck M.dblK hr rfl (pk_cons (pv 6) (pk_cons (pv 2) (pk_nil)))) (pa_cons (pe_ck M.hvsK hr rfl (pk_cons (pv 6) (pk_cons (pv 2) (pk_nil)))) (pa_nil)))))
      (pss_cons (ps_if (pt_not (pt_val (pe_c M.exa hr rfl (pa_cons (pe_lst (pa_cons (pv 8) (pa_cons (pv 6) (pa_nil)))) (pa_cons (pe_lst (pa_cons (pe_lst (pa_cons (pv 4) (pa_cons (pv 5) (pa_nil)))) (pa_cons (pv 3) (pa_nil)))) (pa_nil)))))) (pss_one (ps_ret (pe_bl))) pss_nil)
      (pss_one (ps_for PassesOwn.never rfl (pi_list (pv 8)) (pg_name (i := 9) nd rfl (Or.inl rfl)) (pss_one (ps_expr (pe_bm PySem.F.plainAttrs_list PySem.F.slot_list_append PySem.F.type_list_append mt_append (pv 9) (pa_cons (pe_str) (pa_nil))))))))))
      (pss_cons (ps_set (i := 8) nd rfl (Or.inl rfl) (pe_lst (pa_cons (pe_c M.dbl hr rfl (pa_cons (pe_c M.opp hr rfl (pa_cons (pv 2) (pa_nil))) (pa_cons (pe_revL (pv 3)) (pa_nil)))) (pa_cons (pe_c M.hvs hr rfl (pa_cons (pe_c M.opp hr rfl (pa_cons (pv 2) (pa_nil))) (pa_cons (pe_revL (pv 3)) (pa_nil)))) (pa_nil)))))
      (pss_cons (ps_if (pt_not (pt_val (pe_c M.exa hr rfl (pa_cons (pv 8) (pa_cons (pe_lst (pa_cons (pe_callB (cr_sortLT (hu65' hr)) (by rfl) Z.sorted (by decide +kernel) (pa_cons (pe_lc (own := [("_law_late", 10)]) (g := gName 10) (tt := tYes) (te := tRevL K (tVar 10)) rfl nd (pi_list (pv 4)) (blkOk_by (own := [("_law_late", 10)]) (N := nLR) (sc := defScope sLR) (by decide +kernel)) (fun _ _ _ _ _ => pg_name (i := 10) nd rfl (Or.inl rfl)) (fun _ _ _ _ _ => pts_nil) (fun _ _ _ _ _ => pe_revL (pv 10))) (pa_nil))) (pa_cons (pe_callB (cr_sortLT (hu65' hr)) (by rfl) Z.sorted (by decide +kernel) (pa_cons (pe_lc (own := [("_law_late", 10)]) (g := gName 10) (tt := tYes) (te := tRevL K (tVar 10)) rfl nd (pi_list (pv 5)) (blkOk_by (own := [("_law_late", 10)]) (N := nLR) (sc := defScope sLR) (by decide +kernel)) (fun _ _ _ _ _ => pg_name (i := 10) nd rfl (Or.inl rfl)) (fun _ _ _ _ _ => pts_nil) (fun _ _ _ _ _ => pe_revL (pv 10))) (pa_nil))) (pa_nil)))) (pa_nil)))))) (pss_one (ps_ret (pe_bl))) pss_nil)
      (pss_cons (ps_for PassesOwn.never rfl (pi_list (pe_lc (own := [("_law_late", 10)]) (g := gName 10) (tt := tTest (tOp (rI0 fun i j => .bl (decide (i < j))) (tCB (rLenS K) (tCons (tVar 10) tNil)) (tC (.int 15)))) (te := tVar 10) rfl nd (pi_list (pe_slice sl_list (pv 4) (po_none) (po_some (pe_int)))) (blkOk_by (own := [("_law_late", 10)]) (N := nLR) (sc := defScope sLR) (by decide +kernel)) (fun _ _ _ _ _ => pg_name (i := 10) nd rfl (Or.inl rfl)) (fun _ _ _ _ _ => pts_one (pt_cmpR op_lt (pe_callB cr_lenS (by rfl) B0.len PySem.boot_len (pa_cons (pv 10) (pa_nil))) (pe_int) (nomark _))) (fun _ _ _ _ _ => pv 10))) (pg_name (i := 10) nd rfl (Or.inl rfl)) (pss_one (ps_if (pt_cmpR (op_notInD (hu65 hr)) (pv 3) (pe_c M.hvs hr rfl (pa_cons (pv 2) (pa_cons (pv 10) (pa_nil)))) (by rfl)) (pss_one (ps_ret (pe_bl))) pss_nil)))
      (pss_cons (ps_set (i := 11) nd rfl (Or.inl rfl) (pe_op op_cat (pe_op op_cat (pe_slice sl_list (pv 4) (po_none) (po_some (pe_int))) (pe_slice sl_list (pv 5) (po_none) (po_some (pe_int)))) (pe_lst (pa_cons (pv 3) (pa_cons (pe_c M.log hr rfl (pa_cons (pv 0) (pa_cons (pv 1) (pa_cons (pe_op op_add (pe_callB call_len_seq (by rfl) B0.len PySem.boot_len (pa_cons (pv 3) (pa_nil))) (pe_c M.draw hr rfl (pa_cons (pv 0) (pa_cons (pe_int) (pa_nil))))) (pa_nil))))) (pa_cons (pe_lst pa_nil) (pa_nil)))))))
      (pss_cons (ps_for PassesOwn.never rfl (pi_list (pv 11)) (pg_name (i := 12) nd rfl (Or.inl rfl)) (pss_cons (ps_set (i := 13) nd rfl (Or.inl rfl) (pe_lst (pa_cons (pe_c M.ldb hr rfl (pa_cons (pv 1) (pa_cons (pv 3) (pa_cons (pv 12) (pa_nil))))) (pa_cons (pe_c M.ldb hr rfl (pa_cons (pv 1) (pa_cons (pv 12) (pa_cons (pv 3) (pa_nil))))) (pa_nil)))))
      (pss_one (ps_if (pt_not (pt_val (pe_c M.exa hr rfl (pa_cons (pe_lst (pa_cons (pe_ck M.idbK hr rfl (pk_cons (pv 12) (pk_cons (pv 3) (pk_cons (pv 2) (pk_nil))))) (pa_cons (pe_c M.idb hr rfl (pa_cons (pv 2) (pa_cons (pv 12) (pa_cons (pv 3) (pa_nil))))) (pa_nil)))) (pa_cons (pv 13) (pa_nil)))))) (pss_one (ps_ret (pe_bl))) pss_nil))))
      (pss_one (ps_ret (pe_bl))))))))), ?_⟩
    have mem : ∀ x ∈ row, x ∈ keysD dl := lg.mem
    have ll : ((row.map V.str).length : Nat) = row.length := List.length_map _
    refine ⟨_, rfl, _, rfl, s0, td, dd, tl, ws, f, dl, tw, r, row, rfl, se, lg, by omega, fun q1 y1 H1 s1 q10 ty1 fy1 so1 my1 => ?_⟩
    refine ⟨_, rfl, _, rfl, s0, td, dd, tl, ws, f, dl, tw, r, row, rfl, se.mono s1, lg.mono s1, by omega, fun q2 y2 H2 s2 q20 ty2 fy2 so2 my2 => ?_⟩
    have s02 : L2.Same H H2 := s1.trans s2
    refine ⟨_, rfl, r, _, rfl, .inl (SqL.of (s02 _ _ lg.at')), fun x x0 => ?_⟩
    have s3 := Same.new (H := H2) (o := .lst (row.map V.str)) x0
    have hx : upd H2 x (.lst (row.map V.str)) x = _ := upd_same
    generalize upd H2 x (.lst (row.map V.str)) = H3 at s3 hx ⊢
    refine ⟨_, _, _, rfl, ?_⟩
    have s03 : L2.Same H H3 := s02.trans s3
    have tyA := (ty1.mono s2).mono s3
    have tyB := ty2.mono s3
    clear ty1 ty2
    have lgx : LogAt dl H3 x row := ⟨hx, lg.few, mem⟩
    have r1 : ∀ z ∈ y1, z.2.length ≤ 20 ∧ ∀ o ∈ z.2, o ∈ keysD dl := fun z hz => by
      have q := ((my1 z.2).mp (List.mem_map.mpr ⟨z, hz, rfl⟩)).mem
      exact ⟨by have := q.2.1; omega, fun o ho => mem o (q.1 o ho)⟩
    have r2 : ∀ z ∈ y2, z.2.length ≤ 10 ∧ ∀ o ∈ z.2, o ∈ keysD dl := fun z hz => by
      have q := ((my2 z.2).mp (List.mem_map.mpr ⟨z, hz, rfl⟩)).mem
      exact ⟨by have := q.2; omega, fun o ho => mem o (q.1 o ho)⟩
    refine ⟨_, rfl, by omega, by omega, ?_⟩
    refine for_range (lo := 0) (n := 2) (fun i σ H' => ∃ x7 x8 x9, σ = [some (.ref p), some (.ref s0), some (.ref A0.q), some (.ref r), some (.ref q1), some (.ref q2), some (.ref x), x7, x8, x9, none, none, none, none] ∧ L2.Same H3 H' ∧ (i = 0 ∨ (y1.length ≤ 63 ∧ y2.length ≤ 63))) ?_ ?_ ?_
    · exact ⟨_, _, _, rfl, fun _ _ e => e, .inl rfl⟩
    · rintro i σ H4 hi ⟨x7, x8, x9, rfl, s4, _⟩
      refine at_name (σ' := [some (.ref p), some (.ref s0), some (.ref A0.q), some (.ref r), some (.ref q1), some (.ref q2), some (.ref x), some (.int (0 + (i : Nat))), x8, x9, none, none, none, none]) rfl ?_
      have s04 := s03.trans s4
      refine ⟨_, rfl, _, rfl, rfl, rfl, A0, ws, f, dl, tw, x, row, rfl, st.mono s04, lgx.mono s4, l10, fun t1 z1 H5 s5 t10 tz1 fz1 sz1 lz1 mz1 => ?_⟩
      refine ⟨_, rfl, _, rfl, rfl, rfl, A0, ws, f, dl, tw, x, row, rfl, (st.mono s04).mono s5, (lgx.mono s4).mono s5, by omega, fun t2 z2 H6 s6 t20 tz2 fz2 sz2 lz2 mz2 => ?_⟩
      have e1 : z1.map (·.2) = y1.map (·.2) := srt_eq sz1 so1 fun o => (mz1 o).trans (my1 o).symm
      have e2 : z2.map (·.2) = y2.map (·.2) := srt_eq sz2 so2 fun o => (mz2 o).trans (my2 o).symm
      have ly1 : y1.length = z1.length := by have := congrArg List.length e1; rw [List.length_map, List.length_map] at this; exact this.symm
      have ly2 : y2.length = z2.length := by have := congrArg List.length e2; rw [List.length_map, List.length_map] at this; exact this.symm
      have n12 : t1 ≠ t2 := fun e => by rw [← e, tz1.at'] at t20; cases t20
      refine ⟨(by show 2 ≤ sizeLine; decide), fun tl tl0 => ?_⟩
      have s7 := Same.new (H := H6) (o := .lst [.ref t1, .ref t2]) tl0
      have htl : upd H6 tl (.lst [.ref t1, .ref t2]) tl = _ := upd_same
      generalize upd H6 tl (.lst [.ref t1, .ref t2]) = H7 at s7 htl ⊢
      refine at_name (σ' := [some (.ref p), some (.ref s0), some (.ref A0.q), some (.ref r), some (.ref q1), some (.ref q2), some (.ref x), some (.int (0 + (i : Nat))), some (.ref tl), x9, none, none, none, none]) rfl ?_
      refine ⟨_, rfl, _, rfl, (by show 2 ≤ sizeLine; decide), fun a1 a10 => ?_⟩
      have s8 := Same.new (H := H7) (o := .lst [.ref tl, .ref x]) a10
      have ha1 : upd H7 a1 (.lst [.ref tl, .ref x]) a1 = _ := upd_same
      generalize upd H7 a1 (.lst [.ref tl, .ref x]) = H8 at s8 ha1 ⊢
      refine ⟨_, rfl, _, rfl, (by show 2 ≤ sizeLine; decide), fun a2 a20 => ?_⟩
      have s9 := Same.new (H := H8) (o := .lst [.ref q1, .ref q2]) a20
      have ha2 : upd H8 a2 (.lst [.ref q1, .ref q2]) a2 = _ := upd_same
      generalize upd H8 a2 (.lst [.ref q1, .ref q2]) = H9 at s9 ha2 ⊢
      refine ⟨_, rfl, (by show 2 ≤ sizeLine; decide), fun a3 a30 => ?_⟩
      have s10 := Same.new (H := H9) (o := .lst [.ref a2, .ref r]) a30
      have ha3 : upd H9 a3 (.lst [.ref a2, .ref r]) a3 = _ := upd_same
      generalize upd H9 a3 (.lst [.ref a2, .ref r]) = H10 at s10 ha3 ⊢
      have s710 : L2.Same H7 H10 := s8.trans (s9.trans s10)
      have s410 : L2.Same H4 H10 := s5.trans (s6.trans (s7.trans s710))
      have s310 : L2.Same H3 H10 := s4.trans s410
      have alk : Alike 6 H10 (.ref a1) (.ref a3) := by
        refine .inr (.inl ⟨a1, a3, _, _, rfl, rfl, s10 _ _ (s9 _ _ ha1), ha3, (by show 2 ≤ 100; decide), ?_⟩)
        refine .cons (.inr (.inl ⟨tl, a2, _, _, rfl, rfl, s710 _ _ htl, s10 _ _ ha2, (by show 2 ≤ 100; decide), ?_⟩)) (.cons (alike_strs 3 (s310 _ _ hx) ((s03.trans s310) _ _ lg.at') lg.few) .nil)
        exact .cons (alike_tls 1 (((tz1.mono s6).mono s7).mono s710) (tyA.mono s310) e1 (by omega) fun z hz => by
            have : z.2 ∈ y1.map (·.2) := by rw [← e1]; exact List.mem_map.mpr ⟨z, hz, rfl⟩
            obtain ⟨z', hz', e⟩ := List.mem_map.mp this
            rw [← e]
            have := (r1 z' hz').1; omega)
          (.cons (alike_tls 1 ((tz2.mono s7).mono s710) (tyB.mono s310) e2 (by omega) fun z hz => by
            have : z.2 ∈ y2.map (·.2) := by rw [← e2]; exact List.mem_map.mpr ⟨z, hz, rfl⟩
            obtain ⟨z', hz', e⟩ := List.mem_map.mp this
            rw [← e]
            have := (r2 z' hz').1; omega) .nil)
      refine ⟨.ref a1, .ref a3, rfl, alk, fun H11 s11 => ⟨_, rfl, iteF ?_⟩⟩
      have s711 : L2.Same H7 H11 := s710.trans s11
      have s311 := s310.trans s11
      have h1 : H11 t1 = some (.lst (z1.map fun z => V.ref z.1)) := s711 _ _ (s7 _ _ (s6 _ _ tz1.at'))
      have h2 : H11 t2 = some (.lst (z2.map fun z => V.ref z.1)) := s711 _ _ (s7 _ _ tz2.at')
      have f1 : H3 t1 = none := s4.free t10
      have f2 : H3 t2 = none := s4.free (s5.free t20)
      have ftl : H3 tl = none := s4.free (s5.free (s6.free tl0))
      have n1l : t1 ≠ tl := fun e => by rw [← e] at tl0; rw [s6 _ _ tz1.at'] at tl0; cases tl0
      have n2l : t2 ≠ tl := fun e => by rw [← e, tz2.at'] at tl0; cases tl0
      refine ⟨_, rfl, tl, rfl, ⟨_, SqL.of (s711 _ _ htl)⟩, ?_⟩
      refine for_list (K := K) (a := tl) (xs := [.ref t1, .ref t2]) (fun j σ H' => ∃ x9 l1 l2, σ = [some (.ref p), some (.ref s0), some (.ref A0.q), some (.ref r), some (.ref q1), some (.ref q2), some (.ref x), some (.int (0 + (i : Nat))), some (.ref tl), x9, none, none, none, none] ∧ L2.Same H3 H' ∧ H' tl = some (.lst [.ref t1, .ref t2]) ∧ H' t1 = some (.lst l1) ∧ H' t2 = some (.lst l2) ∧ l1.length ≤ 63 + j ∧ l2.length ≤ 63 + j) ?_ ?_ ?_ ?_
      · exact ⟨_, _, _, rfl, s311, s711 _ _ htl, h1, h2, by rw [List.length_map]; omega, by rw [List.length_map]; omega⟩
      · rintro j σ H' _ ⟨_, _, _, rfl, _, h, _⟩
        exact SqL.of h
      · rintro j v σ H12 hj ⟨x9, l1, l2, rfl, s12, hl, g1, g2, b1, b2⟩
        refine at_name (σ' := [some (.ref p), some (.ref s0), some (.ref A0.q), some (.ref r), some (.ref q1), some (.ref q2), some (.ref x), some (.int (0 + (i : Nat))), some (.ref tl), some v, none, none, none, none]) rfl ?_
        have jl : j < 2 := (List.getElem?_eq_some_iff.mp hj).1
        have cs : v = .ref t1 ∨ v = .ref t2 := by
          match j, jl, hj with
          | 0, _, h => exact .inl (Option.some.inj h).symm
          | 1, _, h => exact .inr (Option.some.inj h).symm
        have neq := n12
        rcases cs with rfl | rfl
        · refine ⟨_, rfl, .inl ⟨rfl, _, SqL.of g1⟩, t1, _, _, rfl, rfl, g1, (by rw [sizeLine_eq]; omega), ?_⟩
          exact ⟨_, _, _, rfl, Same.mut s12 f1, (upd_ne n1l.symm).trans hl, upd_same, (upd_ne n12.symm).trans g2, by rw [List.length_append, List.length_singleton]; omega, by omega⟩
        · refine ⟨_, rfl, .inl ⟨rfl, _, SqL.of g2⟩, t2, _, _, rfl, rfl, g2, (by rw [sizeLine_eq]; omega), ?_⟩
          exact ⟨_, _, _, rfl, Same.mut s12 f2, (upd_ne n2l.symm).trans hl, (upd_ne n12).trans g1, upd_same, by omega, by rw [List.length_append, List.length_singleton]; omega⟩
      · rintro σ H12 ⟨x9, l1, l2, rfl, s12, _⟩
        exact ⟨_, _, _, rfl, s12, .inr ⟨by omega, by omega⟩⟩
    · rintro σ H4 ⟨x7, x8, x9, rfl, s4, fw⟩
      obtain ⟨ly1, ly2⟩ : y1.length ≤ 63 ∧ y2.length ≤ 63 := fw.resolve_left (by omega)
      have s04 := s03.trans s4
      have st4 := st.mono s04
      -- turned about
      refine ⟨_, rfl, A0, ws, f, dl, tw, rfl, st4, fun B1 H5 stB s5 => ?_⟩
      refine ⟨_, rfl, r, _, rfl, SqL.of ((s04.trans s5) _ _ lg.at'), fun v v0 => ?_⟩
      have s6 := Same.new (H := H5) (o := .lst (row.map V.str).reverse) v0
      have lgv : LogAt dl (upd H5 v (.lst (row.map V.str).reverse)) v row.reverse := ⟨by rw [List.map_reverse]; exact upd_same, by rw [List.length_reverse]; exact lg.few, fun o ho => mem o (List.mem_reverse.mp ho)⟩
      generalize upd H5 v (.lst (row.map V.str).reverse) = H6 at s6 lgv ⊢
      have kw := st.kin.kw
      have kwB := stB.kin.kw
      refine ⟨B1, ws, _, dl, tw, v, row.reverse, rfl, stB.mono s6, lgv, by rw [List.length_reverse]; exact l10, fun t1 z1 H7 s7 t10 tz1 fz1 sz1 lz1 mz1 => ?_⟩
      have s07 : L2.Same H H7 := s04.trans (s5.trans (s6.trans s7))
      refine ⟨_, rfl, A0, ws, f, dl, tw, rfl, st.mono s07, fun B2 H8 stB2 s8 => ?_⟩
      refine ⟨_, rfl, r, _, rfl, SqL.of ((s07.trans s8) _ _ lg.at'), fun u u0 => ?_⟩
      have s9 := Same.new (H := H8) (o := .lst (row.map V.str).reverse) u0
      have lgu : LogAt dl (upd H8 u (.lst (row.map V.str).reverse)) u row.reverse := ⟨by rw [List.map_reverse]; exact upd_same, by rw [List.length_reverse]; exact lg.few, fun o ho => mem o (List.mem_reverse.mp ho)⟩
      generalize upd H8 u (.lst (row.map V.str).reverse) = H9 at s9 lgu ⊢
      refine ⟨B2, ws, _, dl, tw, u, row.reverse, rfl, stB2.mono s9, lgu, by rw [List.length_reverse]; omega, fun t2 z2 H10 s10 t20 tz2 fz2 sz2 lz2 mz2 => ?_⟩
      have s710 : L2.Same H7 H10 := s8.trans (s9.trans s10)
      refine ⟨(by show 2 ≤ sizeLine; decide), fun tl tl0 => ?_⟩
      have s11 := Same.new (H := H10) (o := .lst [.ref t1, .ref t2]) tl0
      have htl : upd H10 tl (.lst [.ref t1, .ref t2]) tl = _ := upd_same
      generalize upd H10 tl (.lst [.ref t1, .ref t2]) = H11 at s11 htl ⊢
      refine at_name (σ' := [some (.ref p), some (.ref s0), some (.ref A0.q), some (.ref r), some (.ref q1), some (.ref q2), some (.ref x), x7, some (.ref tl), x9, none, none, none, none]) rfl ?_
      have s711 := s710.trans s11
      have s011 : L2.Same H H11 := s07.trans s711
      have s311 : L2.Same H3 H11 := s4.trans (s5.trans (s6.trans (s7.trans s711)))
      have tz1' := tz1.mono s711
      have tz2' := tz2.mono s11
      refine ⟨_, rfl, ?_⟩
      refine ⟨_, rfl, q1, rfl, ⟨_, SqL.of (tyA.mono s311).at'⟩, fun D1 hD1 => ?_⟩
      refine lcQ (walk_LI (K := K) (a := q1) y1 fun z => V.ref z.1) rel_same (fun _ => true) (fun _ _ => True) (fun H' z v => ∃ a, v = .ref a ∧ a ≠ D1 ∧ H' a = some (.lst (z.2.reverse.map V.str)) ∧ H11 a = none) (by omega) hD1 (fun s e => s _ _ e)
        (fun s ⟨a, e1, e2, e3, e4⟩ => ⟨a, e1, e2, s _ _ e3, e4⟩) (fun ⟨a, e1, e2, e3, e4⟩ => ⟨a, e1, e2, (upd_ne e2).trans e3, e4⟩) (fun h => h) trivial (fun H' s => SqL.of (s _ _ (tyA.mono s311).at')) (fun j z G Y N ej sg _ hDo kY kN => ?_) (fun Lq1 G1 sg1 _ eL1 hDG1 fz1 => ?_)
      · refine at_name (σ' := [some (.ref p), some (.ref s0), some (.ref A0.q), some (.ref r), some (.ref q1), some (.ref q2), some (.ref x), x7, some (.ref tl), x9, some (.ref z.1), none, none, none]) rfl ⟨rfl, yes_if ?_⟩
        have hz := sg _ _ ((tyA.mono s311).all z (List.mem_of_getElem? ej))
        refine ⟨_, rfl, z.1, _, rfl, SqL.of hz, fun c c0 => ?_⟩
        rw [← List.map_reverse]
        obtain ⟨o, ho⟩ := hDo
        exact kY rfl _ _ (Same.new c0) trivial ⟨c, rfl, (fun e => by rw [e, ho] at c0; cases c0), upd_same, none_back sg c0⟩
      obtain ⟨w1, a1, b1, c1, d1⟩ := tl_gen (g := fun z : Addr × List Str => z.2.reverse) fz1
      have bb1 : w1.map (·.2) = (y1.map (·.2)).map List.reverse := by
        rw [b1, List.map_map]
        have q : Lq1.map (fun q => q.1.2.reverse) = (Lq1.map (·.1)).map fun z => z.2.reverse := by rw [List.map_map]; rfl
        rw [q, eL1, List.filter_eq_self.mpr fun _ _ => rfl]; rfl
      rw [a1] at hDG1
      refine ⟨D1, w1, rfl, ⟨hDG1, c1⟩, fun v1 p1 pm1 sv1 p10 => ?_⟩
      have sv1' : (v1.map (·.2)).Pairwise ltR := srt_of (pm1.map (·.2)) (by rw [bb1]; exact rev_inj (List.Pairwise.imp (fun {a b} (h : ltR a b) => fun e => by rw [e] at h; exact ltR_irr _ h) so1)) sv1
      have mv1 : ∀ o, o ∈ v1.map (·.2) ↔ o.reverse ∈ y1.map (·.2) := fun o => by
        rw [(pm1.map (·.2)).mem_iff, bb1, List.mem_map]
        exact ⟨fun ⟨a, h, e⟩ => by rw [← e, List.reverse_reverse]; exact h, fun h => ⟨_, h, List.reverse_reverse o⟩⟩
      have sp1 := Same.new (H := G1) (o := .lst (v1.map fun z => V.ref z.1)) p10
      have tv1 : TLs (upd G1 p1 (.lst (v1.map fun z => V.ref z.1))) p1 v1 := ⟨upd_same, fun z hz => sp1 _ _ (c1 z (pm1.mem_iff.mp hz))⟩
      generalize upd G1 p1 (.lst (v1.map fun z => V.ref z.1)) = J1 at sp1 tv1 ⊢
      have sJ1 : L2.Same H11 J1 := sg1.trans sp1
      refine ⟨_, rfl, q2, rfl, ⟨_, SqL.of ((tyB.mono s311).mono sJ1).at'⟩, fun D2 hD2 => ?_⟩
      refine lcQ (walk_LI (K := K) (a := q2) y2 fun z => V.ref z.1) rel_same (fun _ => true) (fun _ _ => True) (fun H' z v => ∃ a, v = .ref a ∧ a ≠ D2 ∧ H' a = some (.lst (z.2.reverse.map V.str)) ∧ J1 a = none) (by omega) hD2 (fun s e => s _ _ e)
        (fun s ⟨a, e1, e2, e3, e4⟩ => ⟨a, e1, e2, s _ _ e3, e4⟩) (fun ⟨a, e1, e2, e3, e4⟩ => ⟨a, e1, e2, (upd_ne e2).trans e3, e4⟩) (fun h => h) trivial (fun H' s => SqL.of (s _ _ ((tyB.mono s311).mono sJ1).at')) (fun j z G Y N ej sg _ hDo kY kN => ?_) (fun Lq2 G2 sg2 _ eL2 hDG2 fz2 => ?_)
      · refine at_name (σ' := [some (.ref p), some (.ref s0), some (.ref A0.q), some (.ref r), some (.ref q1), some (.ref q2), some (.ref x), x7, some (.ref tl), x9, some (.ref z.1), none, none, none]) rfl ⟨rfl, yes_if ?_⟩
        have hz := sg _ _ (((tyB.mono s311).mono sJ1).all z (List.mem_of_getElem? ej))
        refine ⟨_, rfl, z.1, _, rfl, SqL.of hz, fun c c0 => ?_⟩
        rw [← List.map_reverse]
        obtain ⟨o, ho⟩ := hDo
        exact kY rfl _ _ (Same.new c0) trivial ⟨c, rfl, (fun e => by rw [e, ho] at c0; cases c0), upd_same, none_back sg c0⟩
      obtain ⟨w2, a2, b2, c2, d2⟩ := tl_gen (g := fun z : Addr × List Str => z.2.reverse) fz2
      have bb2 : w2.map (·.2) = (y2.map (·.2)).map List.reverse := by
        rw [b2, List.map_map]
        have q : Lq2.map (fun q => q.1.2.reverse) = (Lq2.map (·.1)).map fun z => z.2.reverse := by rw [List.map_map]; rfl
        rw [q, eL2, List.filter_eq_self.mpr fun _ _ => rfl]; rfl
      rw [a2] at hDG2
      refine ⟨D2, w2, rfl, ⟨hDG2, c2⟩, fun v2 p2 pm2 sv2 p20 => ?_⟩
      have sv2' : (v2.map (·.2)).Pairwise ltR := srt_of (pm2.map (·.2)) (by rw [bb2]; exact rev_inj (List.Pairwise.imp (fun {a b} (h : ltR a b) => fun e => by rw [e] at h; exact ltR_irr _ h) so2)) sv2
      have mv2 : ∀ o, o ∈ v2.map (·.2) ↔ o.reverse ∈ y2.map (·.2) := fun o => by
        rw [(pm2.map (·.2)).mem_iff, bb2, List.mem_map]
        exact ⟨fun ⟨a, h, e⟩ => by rw [← e, List.reverse_reverse]; exact h, fun h => ⟨_, h, List.reverse_reverse o⟩⟩
      have sp2 := Same.new (H := G2) (o := .lst (v2.map fun z => V.ref z.1)) p20
      have tv2 : TLs (upd G2 p2 (.lst (v2.map fun z => V.ref z.1))) p2 v2 := ⟨upd_same, fun z hz => sp2 _ _ (c2 z (pm2.mem_iff.mp hz))⟩
      generalize upd G2 p2 (.lst (v2.map fun z => V.ref z.1)) = J2 at sp2 tv2 ⊢
      have sJ2 : L2.Same J1 J2 := sg2.trans sp2
      refine ⟨(by show 2 ≤ sizeLine; decide), fun a3 a30 => ?_⟩
      have sK := Same.new (H := J2) (o := .lst [.ref p1, .ref p2]) a30
      have ha3 : upd J2 a3 (.lst [.ref p1, .ref p2]) a3 = _ := upd_same
      generalize upd J2 a3 (.lst [.ref p1, .ref p2]) = K1 at sK ha3 ⊢
      have s11K : L2.Same H11 K1 := sJ1.trans (sJ2.trans sK)
      have mkw : ∀ z ∈ kds dl row, z ∈ ws := kds_mem st.ok mem
      have mkr : ∀ z ∈ kds dl row.reverse, z ∈ ws := kds_mem st.ok fun o ho => mem o (List.mem_reverse.mp ho)
      have e1 : z1.map (·.2) = v1.map (·.2) := srt_eq sz1 sv1' fun o => by
        rw [mz1, mv1, my1]
        exact ⟨fun h => by have q := Dbl.rev kwB mkr h; rwa [List.reverse_reverse] at q, fun h => by have q := Dbl.rev kw mkw h; rwa [List.reverse_reverse] at q⟩
      have e2 : z2.map (·.2) = v2.map (·.2) := srt_eq sz2 sv2' fun o => by
        rw [mz2, mv2, my2]
        exact ⟨fun h => by have q := Hlv.rev kwB mkr h; rwa [List.reverse_reverse] at q, fun h => by have q := Hlv.rev kw mkw h; rwa [List.reverse_reverse] at q⟩
      have alk : Alike 6 K1 (.ref tl) (.ref a3) := by
        refine .inr (.inl ⟨tl, a3, _, _, rfl, rfl, s11K _ _ htl, ha3, (by show 2 ≤ 100; decide), ?_⟩)
        refine .cons (alike_tls 2 (tz1'.mono s11K) (tv1.mono (sJ2.trans sK)) e1 (by omega) fun z hz => ?_) (.cons (alike_tls 2 (tz2'.mono s11K) (tv2.mono sK) e2 (by omega) fun z hz => ?_) .nil)
        · have q := ((mz1 z.2).mp (List.mem_map.mpr ⟨z, hz, rfl⟩)).mem.2.1
          rw [List.length_reverse] at q; omega
        · have q := ((mz2 z.2).mp (List.mem_map.mpr ⟨z, hz, rfl⟩)).mem.2
          rw [List.length_reverse] at q; omega
      refine ⟨.ref tl, .ref a3, rfl, alk, fun H12 s12 => ⟨_, rfl, iteF ?_⟩⟩
      have s312 : L2.Same H3 H12 := s311.trans (s11K.trans s12)
      have s012 : L2.Same H H12 := s03.trans s312
      clear alk
      -- each longer one has the log for a halving
      refine ⟨_, rfl, _, rfl, q1, _, rfl, SqL.of (s312 _ _ tyA.at'), fun e e0 => ?_⟩
      rw [show (some (6 : Int)) = some ((6 : Nat) : Int) from rfl, cut_upto, ← List.map_take]
      have s13 := Same.new (H := H12) (o := .lst ((y1.take 6).map fun z => V.ref z.1)) e0
      have he : upd H12 e (.lst ((y1.take 6).map fun z => V.ref z.1)) e = _ := upd_same
      generalize upd H12 e (.lst ((y1.take 6).map fun z => V.ref z.1)) = H13 at s13 he ⊢
      have s313 := s312.trans s13
      refine ⟨e, rfl, ⟨_, SqL.of he⟩, fun D hD => ?_⟩
      refine lcV (walk_LI (K := K) (a := e) (y1.take 6) fun z => V.ref z.1) (fun z => decide (z.2.length < 15)) (fun z => V.ref z.1) (by rw [List.length_take]; omega) hD (fun H' s => SqL.of (s _ _ he)) (fun j z G Y N ej sg kY kN => ?_) (fun H14 s14 hD14 => ?_)
      · have mz : z ∈ y1 := List.mem_of_mem_take (List.mem_of_getElem? ej)
        have hz := ((tyA.mono s313).mono sg).all z mz
        refine at_name (σ' := [some (.ref p), some (.ref s0), some (.ref A0.q), some (.ref r), some (.ref q1), some (.ref q2), some (.ref x), x7, some (.ref tl), x9, some (.ref z.1), none, none, none]) rfl ⟨rfl, ?_⟩
        refine ⟨_, rfl, z.1, _, rfl, .inl (SqL.of hz), _, _, rfl, rfl, _, rfl, ?_⟩
        have ed : decide ((((z.2.map V.str).length : Nat) : Int) < 15) = decide (z.2.length < 15) := by
          rw [List.length_map]
          exact decide_eq_decide.mpr (by omega)
        rw [ed]
        exact ite2 (fun h => ⟨_, rfl, kY h _ fun _ _ e => e⟩) (fun h => kN (Bool.eq_false_iff.mpr h) _ fun _ _ e => e)
      have s314 := s313.trans s14
      refine ⟨D, rfl, ⟨_, SqL.of hD14⟩, ?_⟩
      refine for_list (K := K) (a := D) (xs := ((y1.take 6).filter fun z => decide (z.2.length < 15)).map fun z => V.ref z.1) (fun j σ H' => ∃ x10, σ = [some (.ref p), some (.ref s0), some (.ref A0.q), some (.ref r), some (.ref q1), some (.ref q2), some (.ref x), x7, some (.ref tl), x9, x10, none, none, none] ∧ L2.Same H14 H') ?_ ?_ ?_ ?_
      · exact ⟨_, rfl, fun _ _ e => e⟩
      · rintro j σ H' _ ⟨x10, rfl, s⟩
        exact SqL.of (s _ _ hD14)
      · rintro j v σ H15 hj ⟨x10, rfl, s15⟩
        rw [List.getElem?_map] at hj
        obtain ⟨z, ez, rfl⟩ := Option.map_eq_some_iff.mp hj
        obtain ⟨mz, lt⟩ := List.mem_filter.mp (List.mem_of_getElem? ez)
        have mz := List.mem_of_mem_take mz
        have lt : z.2.length < 15 := of_decide_eq_true lt
        refine at_name (σ' := [some (.ref p), some (.ref s0), some (.ref A0.q), some (.ref r), some (.ref q1), some (.ref q2), some (.ref x), x7, some (.ref tl), x9, some (.ref z.1), none, none, none]) rfl ?_
        have s315 := s314.trans s15
        have hz := (tyA.mono s315).all z mz
        obtain ⟨_, mo⟩ := r1 z mz
        have lgz : LogAt dl H15 z.1 z.2 := ⟨hz, by omega, mo⟩
        refine ⟨_, rfl, _, rfl, _, rfl, A0, ws, f, dl, tw, z.1, z.2, rfl, st.mono (s03.trans s315), lgz, by omega, fun q zs H16 s16 q0 tz fz sz lz mzs => ?_⟩
        have wd : ∀ o ∈ keysD dl, Wd o := st.ok.wd
        refine ⟨_, _, dp_strs (SqL.of ((s03.trans (s315.trans s16)) _ _ lg.at')), .lst (SqL.of tz.at') (dpAll_rows tz.all), shaped_strs _ (fun o ho => wd o (mem o ho)), shaped_rows zs (fun y hy o ho => ?_), ?_⟩
        · have q := ((mzs y.2).mp (List.mem_map.mpr ⟨y, hy, rfl⟩)).mem.1 o ho
          exact wd o (mo o q)
        · rw [any_rows, decide_eq_true ((mzs row).mpr (Dbl.back ((my1 z.2).mp (List.mem_map.mpr ⟨z, mz, rfl⟩))))]
          exact ⟨_, rfl, iteF ⟨_, rfl, s15.trans s16⟩⟩
      · rintro σ H15 ⟨x10, rfl, s15⟩
        have s315 := s314.trans s15
        have s015 := s03.trans s315
        refine ⟨_, rfl, _, rfl, q1, _, rfl, SqL.of (s315 _ _ tyA.at'), fun e1 e10 => ?_⟩
        rw [show (some (4 : Int)) = some ((4 : Nat) : Int) from rfl, cut_upto, ← List.map_take]
        have s16 := Same.new (H := H15) (o := .lst ((y1.take 4).map fun z => V.ref z.1)) e10
        have he1 : upd H15 e1 (.lst ((y1.take 4).map fun z => V.ref z.1)) e1 = _ := upd_same
        generalize upd H15 e1 (.lst ((y1.take 4).map fun z => V.ref z.1)) = H16 at s16 he1 ⊢
        refine ⟨_, rfl, _, rfl, q2, _, rfl, SqL.of ((s315.trans s16) _ _ tyB.at'), fun e2 e20 => ?_⟩
        rw [show (some (4 : Int)) = some ((4 : Nat) : Int) from rfl, cut_upto, ← List.map_take]
        have s17 := Same.new (H := H16) (o := .lst ((y2.take 4).map fun z => V.ref z.1)) e20
        have he2 : upd H16 e2 (.lst ((y2.take 4).map fun z => V.ref z.1)) e2 = _ := upd_same
        generalize upd H16 e2 (.lst ((y2.take 4).map fun z => V.ref z.1)) = H17 at s17 he2 ⊢
        refine ⟨e1, e2, _, _, rfl, rfl, s17 _ _ he1, he2, by rw [List.length_map, List.length_map, List.length_take, List.length_take, sizeLine_eq]; omega, fun e3 e30 => ?_⟩
        rw [← List.map_append]
        have s18 := Same.new (H := H17) (o := .lst ((y1.take 4 ++ y2.take 4).map fun z => V.ref z.1)) e30
        have he3 : upd H17 e3 (.lst ((y1.take 4 ++ y2.take 4).map fun z => V.ref z.1)) e3 = _ := upd_same
        generalize upd H17 e3 (.lst ((y1.take 4 ++ y2.take 4).map fun z => V.ref z.1)) = H18 at s18 he3 ⊢
        have s318 : L2.Same H3 H18 := s315.trans (s16.trans (s17.trans s18))
        have s018 := s03.trans s318
        have hP18 := hP.mono s018
        refine ⟨_, rfl, _, rfl, _, rfl, _, rfl, r, _, rfl, .inl (SqL.of (s018 _ _ lg.at')), _, rfl, p, 4, _, rfl, hP18, b0, by omega, by decide, by decide, fun d H19 bt19 hP19 d0 d4 => ?_⟩
        obtain ⟨m, rfl⟩ : ∃ m : Nat, d = m := ⟨d.toNat, by omega⟩
        have em : (((row.map V.str).length : Nat) : Int) + ((m : Nat) : Int) = ((row.length + m : Nat) : Int) := by rw [ll]; omega
        refine ⟨_, _, rfl, rfl, ?_⟩
        refine ⟨p, s0, td, dd, _, _, ws, f, dl, tw, row.length + m, (by show ([V.ref p, V.ref s0, V.int ((((row.map V.str).length : Nat) : Int) + ((m : Nat) : Int))] : List V) = _; rw [em]), hP19, by omega, by omega, (se.mono s018).purse hP18 bt19, by omega, fun g rg H20 bt20 hP20 g0 lgg lrg => ?_⟩
        refine ⟨Nat.zero_le _, fun nl nl0 => ?_⟩
        have s21 := Same.new (H := H20) (o := .lst []) nl0
        have hnl : upd H20 nl (.lst []) nl = _ := upd_same
        generalize upd H20 nl (.lst []) = H21 at s21 hnl ⊢
        refine ⟨(by show 3 ≤ sizeLine; decide), fun e4 e40 => ?_⟩
        have s22 := Same.new (H := H21) (o := .lst [.ref r, .ref g, .ref nl]) e40
        have he4 : upd H21 e4 (.lst [.ref r, .ref g, .ref nl]) e4 = _ := upd_same
        generalize upd H21 e4 (.lst [.ref r, .ref g, .ref nl]) = H22 at s22 he4 ⊢
        have s2022 : L2.Same H20 H22 := s21.trans s22
        have bt0 : But p H18 H22 := (bt19.trans bt20).same s2022
        have tA := ((tyA.mono s318).purse hP18 bt19).purse hP19 bt20
        have tB := ((tyB.mono s318).purse hP18 bt19).purse hP19 bt20
        have he3' : H22 e3 = some (.lst ((y1.take 4 ++ y2.take 4).map fun z => V.ref z.1)) := bt0 _ _ (fun e => by
          obtain ⟨a, b, c, d, hp, _⟩ := hP18
          rw [← e, he3] at hp
          have q := HO.lst.inj (Option.some.inj hp)
          cases h : (y1.take 4 ++ y2.take 4) with
          | nil => rw [h] at q; cases q
          | cons z zs => rw [h] at q; injection q with q _; cases q) he3
        refine ⟨e3, e4, _, _, rfl, rfl, he3', he4, by rw [List.length_map, List.length_append, List.length_take, List.length_take, sizeLine_eq]; show _ + 3 ≤ _; omega, fun oa oa0 => ?_⟩
        obtain ⟨zs, ezs⟩ : ∃ zs : List (Addr × List Str), zs = y1.take 4 ++ y2.take 4 ++ [(r, row), (g, rg), (nl, [])] := ⟨_, rfl⟩
        have ezv : ((y1.take 4 ++ y2.take 4).map fun z => V.ref z.1) ++ [V.ref r, V.ref g, V.ref nl] = zs.map fun z => V.ref z.1 := by rw [ezs, List.map_append (l₂ := [(r, row), (g, rg), (nl, [])])]; rfl
        rw [ezv]
        have s23 := Same.new (H := H22) (o := .lst (zs.map fun z => V.ref z.1)) oa0
        have hoa : upd H22 oa (.lst (zs.map fun z => V.ref z.1)) oa = _ := upd_same
        generalize upd H22 oa (.lst (zs.map fun z => V.ref z.1)) = H23 at s23 hoa ⊢
        have s2023 : L2.Same H20 H23 := s2022.trans s23
        have b023 : But p H H23 := (((But.refl p H).same s018).trans bt0).same s23
        have hP23 : PurseAt H23 p (B + 4 + 800) := hP20.mono s2023
        have lg23 : LogAt dl H23 r row := (((lg.mono s018).purse hP18 bt19).purse hP19 bt20).mono s2023
        have lgz : ∀ z ∈ zs, LogAt dl H23 z.1 z.2 := fun z hz => by
          rw [ezs] at hz
          rcases List.mem_append.mp hz with hz | hz
          · rcases List.mem_append.mp hz with hz | hz
            · have m := List.mem_of_mem_take hz
              exact (tA.mono s2023).log m (by have := (r1 z m).1; omega) (r1 z m).2
            · have m := List.mem_of_mem_take hz
              exact (tB.mono s2023).log m (by have := (r2 z m).1; omega) (r2 z m).2
          · simp only [List.mem_cons, List.not_mem_nil, or_false] at hz
            rcases hz with rfl | rfl | rfl
            · exact lg23
            · exact lgg.mono s2023
            · exact ⟨s23 _ _ (s22 _ _ hnl), Nat.zero_le _, fun o ho => by cases ho⟩
        have st23 : StIn S C H23 A0 ws f dl tw := (((st.mono s018).but bt19 ((st.mono s018).purse hP18)).but bt20 (((st.mono s018).but bt19 ((st.mono s018).purse hP18)).purse hP19)).mono s2023
        have se23 := (((se.mono s018).purse hP18 bt19).purse hP19 bt20).mono s2023
        refine at_name (σ' := [some (.ref p), some (.ref s0), some (.ref A0.q), some (.ref r), some (.ref q1), some (.ref q2), some (.ref x), x7, some (.ref tl), x9, x10, some (.ref oa), none, none]) rfl ?_
        refine ⟨_, rfl, oa, rfl, ⟨_, SqL.of hoa⟩, ?_⟩
        refine for_list (K := K) (a := oa) (xs := zs.map fun z => V.ref z.1) (fun j σ H' => ∃ x12 x13, σ = [some (.ref p), some (.ref s0), some (.ref A0.q), some (.ref r), some (.ref q1), some (.ref q2), some (.ref x), x7, some (.ref tl), x9, x10, some (.ref oa), x12, x13] ∧ L2.Same H23 H') ?_ ?_ ?_ ?_
        · exact ⟨_, _, rfl, fun _ _ e => e⟩
        · rintro j σ H' _ ⟨x12, x13, rfl, s⟩
          exact SqL.of (s _ _ hoa)
        · rintro j v σ G0 hj ⟨x12, x13, rfl, g0⟩
          rw [List.getElem?_map] at hj
          obtain ⟨z, ez, rfl⟩ := Option.map_eq_some_iff.mp hj
          have lz := lgz z (List.mem_of_getElem? ez)
          refine at_name (σ' := [some (.ref p), some (.ref s0), some (.ref A0.q), some (.ref r), some (.ref q1), some (.ref q2), some (.ref x), x7, some (.ref tl), x9, x10, some (.ref oa), some (.ref z.1), x13]) rfl ?_
          refine ⟨_, rfl, _, rfl, _, rfl, s0, td, dd, _, ws, f, dl, tw, r, z.1, row, z.2, rfl, se23.mono g0, lg23.mono g0, lz.mono g0, fun c1 G1 g1 hc1 => ?_⟩
          have g01 := g0.trans g1
          refine ⟨_, rfl, _, rfl, _, rfl, s0, td, dd, _, ws, f, dl, tw, z.1, r, z.2, row, rfl, se23.mono g01, lz.mono g01, lg23.mono g01, fun c2 G2 g2 hc2 => ?_⟩
          refine ⟨(by show 2 ≤ sizeLine; decide), fun a1 a10 => ?_⟩
          have g3 := Same.new (H := G2) (o := .lst [.bl c1, .bl c2]) a10
          have ha1 : upd G2 a1 (.lst [.bl c1, .bl c2]) a1 = _ := upd_same
          generalize upd G2 a1 (.lst [.bl c1, .bl c2]) = G3 at g3 ha1 ⊢
          have g03 : L2.Same H23 G3 := g01.trans (g2.trans g3)
          refine at_name (σ' := [some (.ref p), some (.ref s0), some (.ref A0.q), some (.ref r), some (.ref q1), some (.ref q2), some (.ref x), x7, some (.ref tl), x9, x10, some (.ref oa), some (.ref z.1), some (.ref a1)]) rfl ?_
          refine ⟨_, rfl, _, rfl, _, rfl, rfl, rfl, A0, ws, f, dl, tw, r, z.1, row, z.2, rfl, st23.mono g03, lg23.mono g03, lz.mono g03, fun d1 G4 g4 hd1 => ?_⟩
          have g04 := g03.trans g4
          refine ⟨_, rfl, _, rfl, _, rfl, A0, ws, f, dl, tw, z.1, r, z.2, row, rfl, st23.mono g04, lz.mono g04, lg23.mono g04, fun d2 G5 g5 hd2 => ?_⟩
          refine ⟨(by show 2 ≤ sizeLine; decide), fun a2 a20 => ?_⟩
          have g6 := Same.new (H := G5) (o := .lst [.bl d1, .bl d2]) a20
          have ha2 : upd G5 a2 (.lst [.bl d1, .bl d2]) a2 = _ := upd_same
          generalize upd G5 a2 (.lst [.bl d1, .bl d2]) = G6 at g6 ha2 ⊢
          have g36 : L2.Same G3 G6 := g4.trans (g5.trans g6)
          obtain rfl : d1 = c1 := by rw [Bool.eq_iff_iff, hd1, hc1]
          obtain rfl : d2 = c2 := by rw [Bool.eq_iff_iff, hd2, hc2]
          refine ⟨_, rfl, .ref a2, .ref a1, rfl, .inr (.inl ⟨a2, a1, _, _, rfl, rfl, ha2, g36 _ _ ha1, (by show 2 ≤ 100; decide), .cons (.inl (.inr (.inr (.inl ⟨_, rfl, rfl⟩)))) (.cons (.inl (.inr (.inr (.inl ⟨_, rfl, rfl⟩)))) .nil)⟩), fun G7 g7 => ⟨_, rfl, iteF ?_⟩⟩
          exact ⟨_, _, rfl, g03.trans (g36.trans g7)⟩
        · rintro σ G0 ⟨x12, x13, rfl, g0⟩
          exact k G0 (b023.same g0) ((hP23.mono g0).le (by omega))
end
end KT
set_option Elab.async false
set_option linter.all false
set_option maxRecDepth 100000
set_option maxHeartbeats 2000000
set_option pp.maxSteps 900
namespace KT
open PySem L2 PyProof.Rows DTp TxS
def trT (L : List (Str × Str × Str)) : List (TE × TE) := L.map fun e => (tTup (tCons (tC (.str e.1)) (tCons (tC (.str e.2.1)) tNil)), tC (.str e.2.2))
def kvL (L : List (Str × Str × Str)) : List (List Key × V) := L.map fun e => ([Sum.inr e.1, Sum.inr e.2.1], V.str e.2.2)
theorem rd_pairsT : ∀ (L : List (Str × Str × Str)) {σ : L2.St} {H : Hp} {Q : List (V × V) → Hp → Prop}, (∀ H' ps, L2.Same H H' → Paired (fun (q : V × V) (kv : List Key × V) => ∃ b, q.1 = .ref b ∧ H' b = some (.tup (kv.1.map kV)) ∧ q.2 = kv.2) ps (kvL L) → Q ps H') → tPairs (trT L) σ H Q
  | [], σ, H, Q, k => k H [] (fun _ _ e => e) .nil
  | e :: L, σ, H, Q, k => by
    refine ⟨(by show 2 ≤ sizeLine; decide), fun b hb => ?_⟩
    have s1 := Same.new (H := H) (o := .tup [.str e.1, .str e.2.1]) hb
    have hb1 : upd H b (.tup [.str e.1, .str e.2.1]) b = _ := upd_same
    refine rd_pairsT L fun H' ps s2 pr => k H' _ (s1.trans s2) (.cons ⟨b, rfl, s2 _ _ hb1, rfl⟩ pr)
theorem rd_dispT (L : List (Str × Str × Str)) (nd : ((kvL L).map (·.1)).Nodup) (l : L.length ≤ 15) {σ : L2.St} {H : Hp} {Q : VK} (k : ∀ p H', H p = none → L2.Same H H' → H' p = some (.dT (kvL L)) → Q (.ref p) H') : tDispT (trT L) σ H Q := by
  intro p hp
  have s1 := Same.new (H := H) (o := .dT []) hp
  refine rd_pairsT L fun H2 ps s2 pr => ⟨s2 _ _ upd_same, kvL L, pr, by unfold kvL; rw [List.length_map]; exact l, ?_⟩
  rw [mergeT_nd _ _ (by rw [List.nil_append]; exact nd), List.nil_append]
  exact k p _ hp (fun c o e => (upd_ne (ne_of_none e hp)).trans ((s1.trans s2) _ _ e)) upd_same
def trK (L : List (Str × Str)) : List (TE × TE) := L.map fun e => (tC (.str e.1), tC (.str e.2))
theorem rd_pairsK : ∀ (L : List (Str × Str)) {σ : L2.St} {H : Hp} {Q : List (V × V) → Hp → Prop}, Q (L.map fun e => (V.str e.1, V.str e.2)) H → tPairs (trK L) σ H Q
  | [], σ, H, Q, k => k
  | e :: L, σ, H, Q, k => rd_pairsK L (Q := fun ps H' => Q ((V.str e.1, V.str e.2) :: ps) H') k
theorem rd_disp (L : List (Str × Str)) (nd : (keysD L).Nodup) (l : L.length ≤ 15) {σ : L2.St} {H : Hp} {Q : VK} (k : ∀ p H', H p = none → L2.Same H H' → H' p = some (.dK (dkv L)) → Q (.ref p) H') : tDisp (trK L) σ H Q := by
  intro p hp
  refine rd_pairsK L ⟨upd_same, dkv L, by unfold dkv; rw [List.map_map]; rfl, by unfold dkv; rw [List.length_map]; exact l, ?_⟩
  rw [mergeK_dkv nd]
  exact k p _ hp (fun c o e => (upd_ne (ne_of_none e hp)).trans ((upd_ne (ne_of_none e hp)).trans e)) upd_same
def kwB (ws : List Str) (f : Str → Str → Str) : Bool := (ws.all fun x => ws.all fun y => decide (f x y ∈ ws) && ws.all fun z => decide (f (f x y) z = f x (f y z)))
theorem kw_chk {ws : List Str} {f : Str → Str → Str} (a : Asc ws) (p : 0 < ws.length) (l : ws.length ≤ 4) (wd : ∀ x ∈ ws, Wd x) (h : kwB ws f = true) : KW ws f := by
  unfold kwB at h
  have h1 : ∀ x y, x ∈ ws → y ∈ ws → f x y ∈ ws ∧ ∀ z, z ∈ ws → f (f x y) z = f x (f y z) := fun x y hx hy => by
    have := List.all_eq_true.mp (List.all_eq_true.mp h x hx) y hy
    rw [Bool.and_eq_true] at this
    exact ⟨of_decide_eq_true this.1, fun z hz => of_decide_eq_true (List.all_eq_true.mp this.2 z hz)⟩
  exact ⟨a, p, l, wd, fun x y hx hy => (h1 x y hx hy).1, fun x y z hx hy hz => (h1 x y hx hy).2 z hz⟩
def wdB (x : Str) : Bool := decide (1 ≤ x.length) && (decide (x.length ≤ 8) && x.cps.toList.all fun c => decide (97 ≤ c ∧ c ≤ 122))
theorem wd_chk {x : Str} (h : wdB x = true) : Wd x := by
  unfold wdB at h
  rw [Bool.and_eq_true, Bool.and_eq_true, List.all_eq_true] at h
  exact ⟨of_decide_eq_true h.1, of_decide_eq_true h.2.1, fun c hc => of_decide_eq_true (h.2.2 c hc)⟩
def rSortD : List V → Hp → VK → Prop := fun xs H Q => ∃ (a : Addr) (kvs : List (Key × V)) (ks : List Str), xs = [.ref a] ∧ Rd H a (.dK kvs) ∧ kvs.map (·.1) = ks.map Sum.inr ∧ ks.length < 64 ∧
    ∀ ys p, ys.Perm ks → sortedS ys = true → H p = none → Q (.ref p) (upd H p (.lst (ys.map V.str)))
theorem cr_sortD {X : Cx} (hc : X.calm = true) : CallR X (.builtin "sorted") rSortD := call_sortedD hc
theorem oneSortR {tx : TE} {σ : L2.St} {H : Hp} {Q : VK} {p a : Addr} {kvs : List (Key × V)} {ks : List Str} {B : Int} {E : XK} (h0 : σ[0]? = some (some (.ref p))) (hx : ∀ R : VK, R (.ref a) H → tx σ H R) (ha : Rd H a (.dK kvs)) (ek : kvs.map (·.1) = ks.map Sum.inr) (few : ks.length < 64) (ne : ks ≠ []) (hP : PurseAt H p B) (b0 : 0 ≤ B) (b9 : B ≤ 1000000)
    (k : ∀ x H', x ∈ ks → But p H H' → PurseAt H' p (B + 4) → Q (.str x) H') : tCall spOneOf [] E (tCons (tVar 0) (tCons (tCB rSortD (tCons tx tNil)) tNil)) σ H Q := by
  refine ⟨_, h0, hx _ ⟨a, kvs, ks, rfl, ha, ek, few, fun ys q pq so hq0 => ?_⟩⟩
  have s1 := Same.new (H := H) (o := .lst (ys.map V.str)) hq0
  have npq := hP.ne hq0
  refine ⟨p, q, ys.map V.str, B, rfl, npq, hP.mono s1, b0, b9, upd_same, by rw [List.length_map, pq.length_eq]; exact List.length_pos_iff.mpr ne, by rw [List.length_map, pq.length_eq]; omega, fun x H' hx bt hP' => ?_⟩
  obtain ⟨y, my, rfl⟩ := List.mem_map.mp hx
  exact k y H' (pq.mem_iff.mp my) (fun c o nc e => bt _ _ nc (s1 _ _ e)) hP'
theorem cut_last1 (xs : List V) : cutV xs (some (-1)) none = xs.drop (xs.length - 1) := by
  unfold cutV
  have e1 : HT.sIx xs.length xs.length none = xs.length := rfl
  have e2 : HT.sIx xs.length 0 (some (-1)) = xs.length - 1 := by
    show (if (-1 : Int) < 0 then ((-1 : Int) + (xs.length : Int)).toNat else min (-1 : Int).toNat xs.length) = _
    rw [if_pos (by decide)]
    omega
  rw [e1, e2, List.take_of_length_le (by rw [List.length_drop]; omega)]
structure GRC (P : Program) (w : World) (K : PySem.W.Frag) (mg : Str → Option Value) (base : Heap) (S C : Addr) : Prop where
  draw : DrawC P w K mg base
  log : Cee P w K mg base 4 "_law_log" ["_law_purse_here", "_law_setting_here", "_law_many"] spLog
  one : Cee P w K mg base 3 "_law_one_of" ["_law_purse_here", "_law_some"] spOneOf
  exa : Cee P w K mg base 7 "_law_exact" ["_law_mine", "_law_theirs"] (spExact 6)
  ldb : Cee P w K mg base 3 "_law_is_doubled" ["_law_setting_here", "_law_one", "_law_other"] spLDb
  idb : Cee P w K mg base 7 "is_doubling" ["setting", "one", "other"] (spIsDb S C)
def spGR (S C : Addr) : Sp := fun vs H Q _ => ∃ (p s td dd tl : Addr) (B : Int) (ws : List Str) (f : Str → Str → Str) (dl : List (Str × Str)) (tw : List Str) (A : SA), vs = [.ref p, .ref s, .ref A.q] ∧ PurseAt H p B ∧ 0 ≤ B ∧ B ≤ 900000 ∧ SetAt H s td dd tl ws f dl tw ∧ StIn S C H A ws f dl tw ∧
  ∀ H', But p H H' → PurseAt H' p (B + 900) → Q (.bl true) H'
section
variable {P : Program} {w : World} {K : PySem.W.Frag} {mg : Str → Option Value} {base : Heap} {C S G : Addr}
abbrev nGR : List Str := ["_law_purse_here", "_law_setting_here", "_law_made_here", "_law_log_here", "_law_first", "_law_last", "_law_far", "_law_bent", "_law_other"]
theorem scGR : FnScope nGR ["_law_purse_here", "_law_setting_here", "_law_made_here"] (defScope sGR) := ⟨rfl, rfl, rfl, by decide +kernel, rfl, by decide +kernel, by decide +kernel⟩
theorem ok_GR {g : Addr} {fd : FuncData} (F : Fun K "_law_great_right" "_law_great_right" sGR g fd) (B0 : Blt mg) (Z : Blp mg) (M : GRC P w K mg base S C) : FnOk P w K mg base CX0 10 g fd ["_law_purse_here", "_law_setting_here", "_law_made_here"] (spGR S C) := by
  refine F.ok scGR (fun vs H Q E h => ?_) (fun cdv A outer s H vs Q E hr h => ?_)
  · obtain ⟨p, s, td, dd, tl, B, ws, f, dl, tw, A, rfl, _⟩ := h
    rfl
  · obtain ⟨p, s0, td, dd, tl, B, ws, f, dl, tw, A0, rfl, hP, b0, b1, se, st, k⟩ := h
    have nd := scGR.nd
    refine ⟨_, pss_cons (ps_set (i := 3) nd rfl (Or.inl rfl) (pe_c M.log hr rfl (pa_cons (pv 0) (pa_cons (pv 1) (pa_cons (pe_op op_add (pe_int) (pe_c M.draw hr rfl (pa_cons (pv 0) (pa_cons (pe_int) (pa_nil))))) (pa_nil))))))
      (pss_cons (ps_set (i := 4) nd rfl (Or.inl rfl) (pe_c M.draw hr rfl (pa_cons (pv 0) (pa_cons (pe_callB call_len_seq (by rfl) B0.len PySem.boot_len (pa_cons (pv 3) (pa_nil))) (pa_nil)))))
      (pss_cons (ps_set (i := 5) nd rfl (Or.inl rfl) (pe_op op_add (pe_op op_add (pv 4) (pe_int)) (pe_c M.draw hr rfl (pa_cons (pv 0) (pa_cons (pe_op op_sub (pe_callB call_len_seq (by rfl) B0.len PySem.boot_len (pa_cons (pv 3) (pa_nil))) (pv 4)) (pa_nil))))))
      (pss_cons (ps_set (i := 6) nd rfl (Or.inl rfl) (pe_op op_cat (pe_op op_cat (pe_slice sl_list (pv 3) (po_none) (po_some (pv 5))) (pe_slice sl_list (pv 3) (po_some (pv 4)) (po_some (pv 5)))) (pe_slice sl_list (pv 3) (po_some (pv 5)) (po_none))))
      (pss_cons (ps_set (i := 7) nd rfl (Or.inl rfl) (pe_op op_cat (pe_op op_cat (pe_slice sl_list (pv 6) (po_none) (po_some (pv 4))) (pe_lst (pa_cons (pe_c M.one hr rfl (pa_cons (pv 0) (pa_cons (pe_callB (cr_sortD rfl) (by rfl) Z.sorted (by decide +kernel) (pa_cons (pe_ix ix_list (pv 1) pe_int (fun _ _ => rfl)) (pa_nil))) (pa_nil)))) (pa_nil)))) (pe_slice sl_list (pv 6) (po_some (pe_op op_add (pv 4) (pe_int))) (po_none))))
      (pss_cons (ps_for PassesOwn.never rfl (pi_tup (pe_tup (pa_cons (pv 6) (pa_cons (pv 7) (pa_cons (pe_slice sl_list (pv 6) (po_some (pe_int)) (po_none)) (pa_cons (pe_op op_cat (pv 6) (pe_slice sl_list (pv 6) (po_some (pe_un un_neg pe_int)) (po_none))) (pa_cons (pv 3) (pa_nil)))))))) (pg_name (i := 8) nd rfl (Or.inl rfl)) (pss_one (ps_if (pt_not (pt_val (pe_c M.exa hr rfl (pa_cons (pe_c M.idb hr rfl (pa_cons (pv 2) (pa_cons (pv 3) (pa_cons (pv 8) (pa_nil))))) (pa_cons (pe_c M.ldb hr rfl (pa_cons (pv 1) (pa_cons (pv 3) (pa_cons (pv 8) (pa_nil))))) (pa_nil)))))) (pss_one (ps_ret (pe_bl))) pss_nil)))
      (pss_one (ps_ret (pe_bl)))))))), ?_⟩
    refine ⟨_, rfl, _, rfl, _, rfl, p, 14, B, rfl, hP, b0, by omega, by decide, by decide, fun d H1 bt1 hP1 d0 d1 => ?_⟩
    obtain ⟨m, rfl⟩ : ∃ m : Nat, d = m := ⟨d.toNat, by omega⟩
    have em : (16 : Int) + ((m : Nat) : Int) = ((16 + m : Nat) : Int) := by omega
    refine ⟨_, _, rfl, rfl, ?_⟩
    refine ⟨p, s0, td, dd, tl, _, ws, f, dl, tw, 16 + m, (by show ([V.ref p, V.ref s0, V.int ((16 : Int) + ((m : Nat) : Int))] : List V) = _; rw [em]), hP1, by omega, by omega, se.purse hP bt1, by omega, fun r row H2 bt2 hP2 r0 lg lrow => ?_⟩
    have mem : ∀ x ∈ row, x ∈ keysD dl := lg.mem
    have ll : ((row.map V.str).length : Nat) = row.length := List.length_map _
    have se2 := (se.purse hP bt1).purse hP1 bt2
    have st1 := st.but bt1 (st.purse hP)
    have st2 := st1.but bt2 (st1.purse hP1)
    refine at_name (σ' := [some (.ref p), some (.ref s0), some (.ref A0.q), some (.ref r), none, none, none, none, none]) rfl ?_
    refine ⟨_, rfl, _, rfl, r, _, rfl, .inl (SqL.of lg.at'), p, _, _, rfl, hP2, by omega, by omega, by rw [ll]; omega, by rw [ll]; omega, fun i H3 bt3 hP3 i0 i1 => ?_⟩
    rw [ll] at i1
    obtain ⟨a, rfl⟩ : ∃ a : Nat, i = a := ⟨i.toNat, by omega⟩
    refine at_name (σ' := [some (.ref p), some (.ref s0), some (.ref A0.q), some (.ref r), some (.int (a : Nat)), none, none, none, none]) rfl ?_
    have lg3 := lg.purse hP2 bt3
    refine ⟨_, rfl, _, _, rfl, rfl, _, rfl, _, rfl, r, _, rfl, .inl (SqL.of lg3.at'), _, rfl, _, _, rfl, rfl, p, _, _, rfl, hP3, by omega, by omega, by rw [ll]; omega, by rw [ll]; omega, fun j H4 bt4 hP4 j0 j1 => ?_⟩
    rw [ll] at j1
    obtain ⟨b', rfl⟩ : ∃ b : Nat, j = b := ⟨j.toNat, by omega⟩
    refine ⟨_, _, rfl, rfl, ?_⟩
    obtain ⟨b, eb⟩ : ∃ b, b = a + 1 + b' := ⟨_, rfl⟩
    have ebI : ((a : Nat) : Int) + 1 + ((b' : Nat) : Int) = ((b : Nat) : Int) := by omega
    refine at_name (σ' := [some (.ref p), some (.ref s0), some (.ref A0.q), some (.ref r), some (.int (a : Nat)), some (.int (((a : Nat) : Int) + 1 + ((b' : Nat) : Int))), none, none, none]) rfl ?_
    rw [ebI]
    have hab : a < b := by omega
    have hbn : b ≤ row.length := by omega
    have lg4 := lg3.purse hP3 bt4
    refine ⟨_, rfl, _, rfl, _, rfl, r, _, rfl, SqL.of (lg4.at'), fun p1 p10 => ?_⟩
    rw [cut_to _ _ (by rw [ll]; omega), ← List.map_take]
    have t_p1 := Same.new (H := H4) (o := .lst ((row.take b).map V.str)) p10
    have h_p1 : upd H4 p1 (.lst ((row.take b).map V.str)) p1 = _ := upd_same
    generalize upd H4 p1 (.lst ((row.take b).map V.str)) = I1 at t_p1 h_p1 ⊢
    refine ⟨_, rfl, _, rfl, _, rfl, _, rfl, _, rfl, r, _, rfl, SqL.of (t_p1 _ _ lg4.at'), fun p2 p20 => ?_⟩
    rw [cut_mid _ _ _ (by omega) (by rw [ll]; omega), ← List.map_take, ← List.map_drop]
    have t_p2 := Same.new (H := I1) (o := .lst (((row.take b).drop a).map V.str)) p20
    have h_p2 : upd I1 p2 (.lst (((row.take b).drop a).map V.str)) p2 = _ := upd_same
    generalize upd I1 p2 (.lst (((row.take b).drop a).map V.str)) = I2 at t_p2 h_p2 ⊢
    have lt1 : (row.take b).length = b := by rw [List.length_take]; omega
    have lt2 : ((row.take b).drop a).length = b - a := by rw [List.length_drop, lt1]
    refine ⟨p1, p2, _, _, rfl, rfl, t_p2 _ _ h_p1, h_p2, by rw [List.length_map, List.length_map, lt1, lt2, sizeLine_eq]; omega, fun p3 p30 => ?_⟩
    rw [← List.map_append]
    have t_p3 := Same.new (H := I2) (o := .lst ((row.take b ++ (row.take b).drop a).map V.str)) p30
    have h_p3 : upd I2 p3 (.lst ((row.take b ++ (row.take b).drop a).map V.str)) p3 = _ := upd_same
    generalize upd I2 p3 (.lst ((row.take b ++ (row.take b).drop a).map V.str)) = I3 at t_p3 h_p3 ⊢
    have i03 : L2.Same H4 I3 := t_p1.trans (t_p2.trans t_p3)
    refine ⟨_, rfl, _, rfl, _, rfl, r, _, rfl, SqL.of (i03 _ _ lg4.at'), fun p4 p40 => ?_⟩
    rw [cut_from _ _ (by rw [ll]; omega), ← List.map_drop]
    have t_p4 := Same.new (H := I3) (o := .lst ((row.drop b).map V.str)) p40
    have h_p4 : upd I3 p4 (.lst ((row.drop b).map V.str)) p4 = _ := upd_same
    generalize upd I3 p4 (.lst ((row.drop b).map V.str)) = I4 at t_p4 h_p4 ⊢
    have lt3 : (row.take b ++ (row.take b).drop a).length = b + (b - a) := by rw [List.length_append, lt1, lt2]
    refine ⟨p3, p4, _, _, rfl, rfl, t_p4 _ _ h_p3, h_p4, by rw [List.length_map, List.length_map, lt3, List.length_drop, sizeLine_eq]; omega, fun p5 p50 => ?_⟩
    rw [← List.map_append]
    obtain ⟨Fr, eF⟩ : ∃ Fr, Fr = row.take b ++ (row.take b).drop a ++ row.drop b := ⟨_, rfl⟩
    rw [← eF]
    have lF : Fr.length = row.length + (b - a) := by rw [eF, List.length_append, lt3, List.length_drop]; omega
    have mF : ∀ o ∈ Fr, o ∈ keysD dl := fun o ho => by
      rw [eF] at ho
      rcases List.mem_append.mp ho with h | h
      · rcases List.mem_append.mp h with h | h
        · exact mem o (List.mem_of_mem_take h)
        · exact mem o (List.mem_of_mem_take (List.mem_of_mem_drop h))
      · exact mem o (List.mem_of_mem_drop h)
    have llF : ((Fr.map V.str).length : Nat) = Fr.length := List.length_map _
    have t_p5 := Same.new (H := I4) (o := .lst (Fr.map V.str)) p50
    have h_p5 : upd I4 p5 (.lst (Fr.map V.str)) p5 = _ := upd_same
    generalize upd I4 p5 (.lst (Fr.map V.str)) = I5 at t_p5 h_p5 ⊢
    refine at_name (σ' := [some (.ref p), some (.ref s0), some (.ref A0.q), some (.ref r), some (.int (a : Nat)), some (.int (b : Nat)), some (.ref p5), none, none]) rfl ?_
    have i05 : L2.Same H4 I5 := i03.trans (t_p4.trans t_p5)
    refine ⟨_, rfl, _, rfl, _, rfl, p5, _, rfl, SqL.of (h_p5), fun b1 b10 => ?_⟩
    rw [cut_to _ _ (by rw [llF]; omega), ← List.map_take]
    have t_b1 := Same.new (H := I5) (o := .lst ((Fr.take a).map V.str)) b10
    have h_b1 : upd I5 b1 (.lst ((Fr.take a).map V.str)) b1 = _ := upd_same
    generalize upd I5 b1 (.lst ((Fr.take a).map V.str)) = I6 at t_b1 h_b1 ⊢
    have i06 : L2.Same H4 I6 := i05.trans t_b1
    have hP6 := hP4.mono i06
    have se6 : SetAt I6 s0 td dd tl ws f dl tw := ((se2.purse hP2 bt3).purse hP3 bt4).mono i06
    have dne : keysD dl ≠ [] := fun e => by
      obtain ⟨x, hx⟩ := List.exists_mem_of_length_pos se.kw.pos
      obtain ⟨q, hq, _⟩ := se.ok.all x hx
      have : q.1 ∈ keysD dl := List.mem_map.mpr ⟨q, hq, rfl⟩
      rw [e] at this; cases this
    have ldl : (keysD dl).length ≤ 8 := by rw [keysD_len]; exact se.ok.few
    refine oneSortR (p := p) (a := dd) rfl (fun R h => ⟨_, rfl, s0, _, 1, _, rfl, rfl, SqL.of se6.hs, atI_nat (j := 1) rfl, h⟩) (.inl se6.hd) (dkv_keys _) (by omega) dne hP6 (by omega) (by omega) fun x H7 hx bt7 hP7 => ?_
    refine ⟨(by show 1 ≤ sizeLine; decide), fun b2 b20 => ?_⟩
    have t_b2 := Same.new (H := H7) (o := .lst [.str x]) b20
    have h_b2 : upd H7 b2 (.lst [.str x]) b2 = _ := upd_same
    generalize upd H7 b2 (.lst [.str x]) = I7 at t_b2 h_b2 ⊢
    have hb1' : I7 b1 = some (.lst ((Fr.take a).map V.str)) := t_b2 _ _ (bt7 _ _ (Ne.symm (hP6.strs h_b1)) h_b1)
    have hp5' : I7 p5 = some (.lst (Fr.map V.str)) := t_b2 _ _ (bt7 _ _ (Ne.symm (hP6.strs (t_b1 _ _ h_p5))) (t_b1 _ _ h_p5))
    refine ⟨b1, b2, _, _, rfl, rfl, hb1', h_b2, by rw [List.length_map, List.length_take, sizeLine_eq]; show _ + 1 ≤ _; omega, fun b3 b30 => ?_⟩
    rw [show (Fr.take a).map V.str ++ [V.str x] = (Fr.take a ++ [x]).map V.str by rw [List.map_append]; rfl]
    have t_b3 := Same.new (H := I7) (o := .lst ((Fr.take a ++ [x]).map V.str)) b30
    have h_b3 : upd I7 b3 (.lst ((Fr.take a ++ [x]).map V.str)) b3 = _ := upd_same
    generalize upd I7 b3 (.lst ((Fr.take a ++ [x]).map V.str)) = I8 at t_b3 h_b3 ⊢
    refine ⟨_, rfl, _, rfl, _, _, rfl, rfl, _, rfl, p5, _, rfl, SqL.of (t_b3 _ _ hp5'), fun b4 b40 => ?_⟩
    rw [show ((a : Nat) : Int) + 1 = ((a + 1 : Nat) : Int) by omega, cut_from _ _ (by rw [llF]; omega), ← List.map_drop]
    have t_b4 := Same.new (H := I8) (o := .lst ((Fr.drop (a + 1)).map V.str)) b40
    have h_b4 : upd I8 b4 (.lst ((Fr.drop (a + 1)).map V.str)) b4 = _ := upd_same
    generalize upd I8 b4 (.lst ((Fr.drop (a + 1)).map V.str)) = I9 at t_b4 h_b4 ⊢
    refine ⟨b3, b4, _, _, rfl, rfl, t_b4 _ _ h_b3, h_b4, by rw [List.length_map, List.length_map, List.length_append, List.length_take, List.length_drop, sizeLine_eq]; show _ + 1 + _ ≤ _; omega, fun b5 b50 => ?_⟩
    rw [← List.map_append]
    have t_b5 := Same.new (H := I9) (o := .lst ((Fr.take a ++ [x] ++ Fr.drop (a + 1)).map V.str)) b50
    have h_b5 : upd I9 b5 (.lst ((Fr.take a ++ [x] ++ Fr.drop (a + 1)).map V.str)) b5 = _ := upd_same
    generalize upd I9 b5 (.lst ((Fr.take a ++ [x] ++ Fr.drop (a + 1)).map V.str)) = J0 at t_b5 h_b5 ⊢
    refine at_name (σ' := [some (.ref p), some (.ref s0), some (.ref A0.q), some (.ref r), some (.int (a : Nat)), some (.int (b : Nat)), some (.ref p5), some (.ref b5), none]) rfl ?_
    have j7 : L2.Same I7 J0 := t_b3.trans (t_b4.trans t_b5)
    have hp5J := j7 _ _ hp5'
    refine ⟨_, rfl, _, rfl, _, rfl, _, rfl, p5, _, rfl, SqL.of hp5J, fun c1 c10 => ?_⟩
    rw [cut_tail', ← List.map_drop]
    have t_c1 := Same.new (H := J0) (o := .lst ((Fr.drop 1).map V.str)) c10
    have h_c1 : upd J0 c1 (.lst ((Fr.drop 1).map V.str)) c1 = _ := upd_same
    generalize upd J0 c1 (.lst ((Fr.drop 1).map V.str)) = J1 at t_c1 h_c1 ⊢
    refine ⟨_, rfl, _, rfl, _, rfl, _, rfl, p5, _, rfl, SqL.of (t_c1 _ _ hp5J), fun c2 c20 => ?_⟩
    rw [cut_last1, llF, ← List.map_drop]
    have t_c2 := Same.new (H := J1) (o := .lst ((Fr.drop (Fr.length - 1)).map V.str)) c20
    have h_c2 : upd J1 c2 (.lst ((Fr.drop (Fr.length - 1)).map V.str)) c2 = _ := upd_same
    generalize upd J1 c2 (.lst ((Fr.drop (Fr.length - 1)).map V.str)) = J2 at t_c2 h_c2 ⊢
    refine ⟨p5, c2, _, _, rfl, rfl, t_c2 _ _ (t_c1 _ _ hp5J), h_c2, by rw [List.length_map, List.length_map, List.length_drop, sizeLine_eq]; omega, fun c3 c30 => ?_⟩
    rw [← List.map_append]
    have t_c3 := Same.new (H := J2) (o := .lst ((Fr ++ Fr.drop (Fr.length - 1)).map V.str)) c30
    have h_c3 : upd J2 c3 (.lst ((Fr ++ Fr.drop (Fr.length - 1)).map V.str)) c3 = _ := upd_same
    generalize upd J2 c3 (.lst ((Fr ++ Fr.drop (Fr.length - 1)).map V.str)) = J3 at t_c3 h_c3 ⊢
    refine ⟨_, rfl, (by show 5 ≤ sizeLine; decide), fun T T0 => ?_⟩
    have t_T := Same.new (H := J3) (o := .tup [.ref p5, .ref b5, .ref c1, .ref c3, .ref r]) T0
    have h_T : upd J3 T (.tup [.ref p5, .ref b5, .ref c1, .ref c3, .ref r]) T = _ := upd_same
    generalize upd J3 T (.tup [.ref p5, .ref b5, .ref c1, .ref c3, .ref r]) = J4 at t_T h_T ⊢
    have j04 : L2.Same J0 J4 := t_c1.trans (t_c2.trans (t_c3.trans t_T))
    have j24 : L2.Same J2 J4 := t_c3.trans t_T
    have i74 : L2.Same I7 J4 := j7.trans j04
    have b46 : But p H4 J4 := (((But.refl p H4).same i06).trans ((bt7.same t_b2).same i74))
    have hP8 : PurseAt J4 p _ := (hP7.mono t_b2).mono i74
    have lgJ : LogAt dl J4 r row := lg4.purse hP4 b46
    have stJ : StIn S C J4 A0 ws f dl tw := by
      have st3 := st2.but bt3 (st2.purse hP2)
      have st4 := st3.but bt4 (st3.purse hP3)
      exact st4.but b46 (st4.purse hP4)
    have seJ : SetAt J4 s0 td dd tl ws f dl tw := ((se2.purse hP2 bt3).purse hP3 bt4).purse hP4 b46
    obtain ⟨zs, ezs⟩ : ∃ zs : List (Addr × List Str), zs = [(p5, Fr), (b5, Fr.take a ++ [x] ++ Fr.drop (a + 1)), (c1, Fr.drop 1), (c3, Fr ++ Fr.drop (Fr.length - 1)), (r, row)] := ⟨_, rfl⟩
    have hT : J4 T = some (.tup (zs.map fun z => V.ref z.1)) := by rw [ezs]; exact h_T
    have lgz : ∀ z ∈ zs, LogAt dl J4 z.1 z.2 := fun z hz => by
      rw [ezs] at hz
      simp only [List.mem_cons, List.not_mem_nil, or_false] at hz
      rcases hz with rfl | rfl | rfl | rfl | rfl
      · exact ⟨j04 _ _ hp5J, by show Fr.length ≤ 100; omega, mF⟩
      · refine ⟨j04 _ _ h_b5, by show (Fr.take a ++ [x] ++ Fr.drop (a + 1)).length ≤ 100; rw [List.length_append, List.length_append, List.length_take, List.length_drop, List.length_singleton]; omega, fun o ho => ?_⟩
        rcases List.mem_append.mp ho with h | h
        · rcases List.mem_append.mp h with h | h
          · exact mF o (List.mem_of_mem_take h)
          · rw [List.mem_singleton.mp h]; exact hx
        · exact mF o (List.mem_of_mem_drop h)
      · exact ⟨(t_c2.trans j24) _ _ h_c1, by show (Fr.drop 1).length ≤ 100; rw [List.length_drop]; omega, fun o ho => mF o (List.mem_of_mem_drop ho)⟩
      · refine ⟨t_T _ _ h_c3, by show (Fr ++ Fr.drop (Fr.length - 1)).length ≤ 100; rw [List.length_append, List.length_drop]; omega, fun o ho => ?_⟩
        rcases List.mem_append.mp ho with h | h
        · exact mF o h
        · exact mF o (List.mem_of_mem_drop h)
      · exact lgJ
    refine ⟨T, rfl, ⟨_, SqT.of hT⟩, ?_⟩
    refine for_it (walk_TI zs fun z => V.ref z.1) (fun i σ H' => ∃ x8 : Option V, σ = [some (.ref p), some (.ref s0), some (.ref A0.q), some (.ref r), some (.int (a : Nat)), some (.int (b : Nat)), some (.ref p5), some (.ref b5), x8] ∧ L2.Same J4 H') ?_ ?_ ?_ ?_
    · exact ⟨_, rfl, fun _ _ e => e⟩
    · rintro i σ H' _ ⟨x8, rfl, v1⟩
      exact SqT.of (v1 _ _ hT)
    · rintro i u σ G0 G1 hi ⟨x8, rfl, g0⟩ ⟨rfl, z, ez, rfl⟩
      have lz := lgz z (List.mem_of_getElem? ez)
      refine at_name (σ' := [some (.ref p), some (.ref s0), some (.ref A0.q), some (.ref r), some (.int (a : Nat)), some (.int (b : Nat)), some (.ref p5), some (.ref b5), some (.ref z.1)]) rfl ?_
      refine ⟨_, rfl, _, rfl, _, rfl, A0, ws, f, dl, tw, r, z.1, row, z.2, rfl, stJ.mono g0, lgJ.mono g0, lz.mono g0, fun d1 G2 g2 hd1 => ?_⟩
      have g02 := g0.trans g2
      refine ⟨_, rfl, _, rfl, _, rfl, s0, td, dd, tl, ws, f, dl, tw, r, z.1, row, z.2, rfl, seJ.mono g02, lgJ.mono g02, lz.mono g02, fun d2 G3 g3 hd2 => ?_⟩
      obtain rfl : d1 = d2 := by rw [Bool.eq_iff_iff, hd1, hd2]
      exact ⟨_, _, rfl, .inl (.inr (.inr (.inl ⟨_, rfl, rfl⟩))), fun G4 g4 => ⟨_, rfl, iteF ⟨_, rfl, g02.trans (g3.trans g4)⟩⟩⟩
    · rintro σ G0 ⟨x8, rfl, g0⟩
      have bA : But p H H4 := ((bt1.trans bt2).trans bt3).trans bt4
      exact k G0 ((bA.trans b46).same g0) ((hP8.mono g0).le (by omega))
end
end KT
set_option Elab.async false
set_option linter.all false
set_option maxRecDepth 100000
set_option maxHeartbeats 2000000
set_option pp.maxSteps 900
namespace KT
open PySem L2 PyProof.Rows DTp TxS
def lzF : Str → Str → Str := fun x _ => x
def lzW : List Str := ["l", "r"]
def lzD : List (Str × Str) := [("a", "l"), ("b", "r")]
def lzO : List Str := ["b", "a", "b"]
def lzL : List Str := ["b", "a", "b", "a", "b"]
theorem lz_asc : Asc lzW := by decide +kernel
theorem lz_asd : Asc (keysD lzD) := by decide +kernel
theorem lz_kw : KW lzW lzF := kw_chk lz_asc (by decide) (by decide) (fun x hx => wd_chk (by
  have h : ∀ x ∈ lzW, wdB x = true := by decide +kernel
  exact h x hx)) (by decide +kernel)
theorem lz_dl : DlOk lzW lzD where
  nd := by decide +kernel
  wd := fun x hx => wd_chk (by
    have h : ∀ x ∈ keysD lzD, wdB x = true := by decide +kernel
    exact h x hx)
  few := by decide
  kd := by decide +kernel
  all := by decide +kernel
theorem lz_tw : TwOk lzW lzF ["l"] := ⟨List.pairwise_singleton _ _, by decide +kernel⟩
theorem lz_tab : kvL [("l", "l", "l"), ("l", "r", "l"), ("r", "l", "r"), ("r", "r", "r")] = tabW lzW lzF := by decide +kernel
theorem lz_dbd : Dbd lzF lzD ["l"] lzO lzL := ⟨1, 2, by decide, by decide, by decide, by decide +kernel, by decide +kernel⟩
theorem lz_hlv (x : List Str) : Hlv lzF ["l"] (kds lzD lzL) lzL x ↔ x = lzO := by
  constructor
  · rintro ⟨a, n, h0, h1, h2, h3, rfl⟩
    have key : ((List.range 5).all fun a => (List.range 3).all fun n => decide ((0 < n ∧ a + 2 * n ≤ 5 ∧ (lzL.take (a + n)).drop a = (lzL.take (a + 2 * n)).drop (a + n) ∧ btw lzF (kds lzD lzL) (a, a + n) ∈ (["l"] : List Str)) → hvAt lzL a n = lzO)) = true := by decide +kernel
    have l5 : lzL.length = 5 := rfl
    rw [l5] at h1
    exact of_decide_eq_true (List.all_eq_true.mp (List.all_eq_true.mp key a (List.mem_range.mpr (by omega))) n (List.mem_range.mpr (by omega))) ⟨h0, h1, h2, h3⟩
  · rintro rfl
    exact ⟨1, 2, by decide, by decide, by decide +kernel, by decide +kernel, by decide +kernel⟩
theorem lz_dbl : Dbl lzF ["l"] (kds lzD lzO) lzO lzL := ⟨1, 3, by decide, by decide, by decide +kernel, by decide +kernel⟩
structure FRC (P : Program) (w : World) (K : PySem.W.Frag) (mg : Str → Option Value) (base : Heap) (S C : Addr) : Prop where
  mad : Cee P w K mg base 9 "_law_made" ["_law_setting_here"] (spMade S C)
  exa : Cee P w K mg base 7 "_law_exact" ["_law_mine", "_law_theirs"] (spExact 6)
  idb : Cee P w K mg base 7 "is_doubling" ["setting", "one", "other"] (spIsDb S C)
  hvs : Cee P w K mg base 5 "halvings" ["setting", "log"] (spHvs S C)
  dbl : Cee P w K mg base 4 "doublings" ["setting", "log"] (spDbls S C)
def spFR : Sp := fun vs H Q _ => vs = [] ∧ ∀ H' : Hp, L2.Same H H' → Q (.bl true) H'
section
variable {P : Program} {w : World} {K : PySem.W.Frag} {mg : Str → Option Value} {base : Heap} {C S G : Addr}
abbrev nFR : List Str := ["_law_table_here", "_law_made_here", "_law_log_here", "_law_longer"]
theorem scFR : FnScope nFR [] (defScope sFR) := ⟨rfl, rfl, rfl, by decide +kernel, rfl, by decide +kernel, by decide +kernel⟩
theorem ok_FR {g : Addr} {fd : FuncData} (F : Fun K "_law_fixed_right" "_law_fixed_right" sFR g fd) (B0 : Blt mg) (Z : Blp mg) (M : FRC P w K mg base S C) : FnOk P w K mg base CX0 10 g fd [] spFR := by
  refine F.ok scFR (fun vs H Q E h => ?_) (fun cdv A outer s H vs Q E hr h => ?_)
  · obtain ⟨rfl, _⟩ := h
    rfl
  · obtain ⟨rfl, k⟩ := h
    have nd := scFR.nd
    refine ⟨_, pss_cons (ps_set (i := 0) nd rfl (Or.inl rfl) (pe_dispT (hu_of hr) (pps_cons (pe_tup (pa_cons (pe_str) (pa_cons (pe_str) (pa_nil)))) (pe_str) (pps_cons (pe_tup (pa_cons (pe_str) (pa_cons (pe_str) (pa_nil)))) (pe_str) (pps_cons (pe_tup (pa_cons (pe_str) (pa_cons (pe_str) (pa_nil)))) (pe_str) (pps_cons (pe_tup (pa_cons (pe_str) (pa_cons (pe_str) (pa_nil)))) (pe_str) (pps_nil))))) (by rfl) (by rfl) (fun z => by cases z) (by decide)))
      (pss_cons (ps_set (i := 1) nd rfl (Or.inl rfl) (pe_c M.mad hr rfl (pa_cons (pe_lst (pa_cons (pv 0) (pa_cons (pe_disp (pps_cons (pe_str) (pe_str) (pps_cons (pe_str) (pe_str) (pps_nil))) (by rfl) (by rfl) (fun z => by cases z) (by decide)) (pa_cons (pe_lst (pa_cons (pe_str) (pa_nil))) (pa_nil))))) (pa_nil))))
      (pss_cons (ps_par (i := 2) (j := 3) rfl nd rfl rfl (by decide) rfl rfl (pa_cons (pe_lst (pa_cons (pe_str) (pa_cons (pe_str) (pa_cons (pe_str) (pa_nil))))) (pa_cons (pe_lst (pa_cons (pe_str) (pa_cons (pe_str) (pa_cons (pe_str) (pa_cons (pe_str) (pa_cons (pe_str) (pa_nil))))))) (pa_nil))) (by rfl))
      (pss_one (ps_ret (pe_c M.exa hr rfl (pa_cons (pe_lst (pa_cons (pe_c M.idb hr rfl (pa_cons (pv 1) (pa_cons (pv 2) (pa_cons (pv 3) (pa_nil))))) (pa_cons (pe_c M.hvs hr rfl (pa_cons (pv 1) (pa_cons (pv 3) (pa_nil)))) (pa_cons (pe_cmpR (op_inD (hu65 hr)) (pv 3) (pe_c M.dbl hr rfl (pa_cons (pv 1) (pa_cons (pv 2) (pa_nil)))) (by rfl)) (pa_nil))))) (pa_cons (pe_lst (pa_cons (pe_bl) (pa_cons (pe_lst (pa_cons (pv 2) (pa_nil))) (pa_cons (pe_bl) (pa_nil))))) (pa_nil)))))))), ?_⟩
    dsimp only [tSeq, tAsg]
    refine rd_dispT [("l", "l", "l"), ("l", "r", "l"), ("r", "l", "r"), ("r", "r", "r")] (by decide +kernel) (by decide) fun td H1 td0 s1 htd => ?_
    rw [lz_tab] at htd
    refine at_name (σ' := [some (.ref td), none, none, none]) rfl ?_
    refine ⟨_, rfl, ?_⟩
    dsimp only [tCons]
    refine rd_disp lzD (by decide +kernel) (by decide) fun dd H2 dd0 s2 hdd => ?_
    refine ⟨(by show 1 ≤ sizeLine; decide), fun tl tl0 => ?_⟩
    have s3 := Same.new (H := H2) (o := .lst [.str "l"]) tl0
    have htl : upd H2 tl (.lst [.str "l"]) tl = some (.lst ((["l"] : List Str).map V.str)) := upd_same
    generalize upd H2 tl (.lst [.str "l"]) = H3 at s3 htl ⊢
    refine ⟨(by show 3 ≤ sizeLine; decide), fun s0 s00 => ?_⟩
    have s4 := Same.new (H := H3) (o := .lst [.ref td, .ref dd, .ref tl]) s00
    have hs0 : upd H3 s0 (.lst [.ref td, .ref dd, .ref tl]) s0 = _ := upd_same
    generalize upd H3 s0 (.lst [.ref td, .ref dd, .ref tl]) = H4 at s4 hs0 ⊢
    have s24 : L2.Same H2 H4 := s3.trans s4
    have se : SetAt H4 s0 td dd tl lzW lzF lzD ["l"] := ⟨hs0, (s2.trans s24) _ _ htd, s24 _ _ hdd, s4 _ _ htl, lz_kw, lz_dl, lz_asd, lz_tw⟩
    refine ⟨s0, td, dd, tl, lzW, lzF, lzD, ["l"], rfl, se, fun A0 H5 st s5 _ => ?_⟩
    refine at_name (σ' := [some (.ref td), some (.ref A0.q), none, none]) rfl ?_
    refine ⟨(by show 3 ≤ sizeLine; decide), fun r r0 => ?_⟩
    have s6 := Same.new (H := H5) (o := .lst [.str "b", .str "a", .str "b"]) r0
    have hrr : upd H5 r (.lst [.str "b", .str "a", .str "b"]) r = some (.lst (lzO.map V.str)) := upd_same
    generalize upd H5 r (.lst [.str "b", .str "a", .str "b"]) = H6 at s6 hrr ⊢
    refine ⟨(by show 5 ≤ sizeLine; decide), fun u u0 => ?_⟩
    have s7 := Same.new (H := H6) (o := .lst [.str "b", .str "a", .str "b", .str "a", .str "b"]) u0
    have hu : upd H6 u (.lst [.str "b", .str "a", .str "b", .str "a", .str "b"]) u = some (.lst (lzL.map V.str)) := upd_same
    generalize upd H6 u (.lst [.str "b", .str "a", .str "b", .str "a", .str "b"]) = H7 at s7 hu ⊢
    refine ⟨_, _, rfl, ?_⟩
    have st7 := st.mono (s6.trans s7)
    have lgr : LogAt lzD H7 r lzO := ⟨s7 _ _ hrr, by decide, by decide +kernel⟩
    have lgu : LogAt lzD H7 u lzL := ⟨hu, by decide, by decide +kernel⟩
    refine ⟨_, rfl, _, rfl, _, rfl, A0, lzW, lzF, lzD, ["l"], r, u, lzO, lzL, rfl, st7, lgr, lgu, fun b1 H8 s8 hb1 => ?_⟩
    obtain rfl : b1 = true := hb1.mpr lz_dbd
    refine ⟨_, rfl, _, rfl, A0, lzW, lzF, lzD, ["l"], u, lzL, rfl, st7.mono s8, lgu.mono s8, by decide, fun q zs H9 s9 q0 tz fz sz lz mz => ?_⟩
    have s79 := s8.trans s9
    refine ⟨_, rfl, _, rfl, _, rfl, A0, lzW, lzF, lzD, ["l"], r, lzO, rfl, st7.mono s79, lgr.mono s79, by decide, fun q2 z2 H10 s10 q20 tz2 fz2 sz2 lz2 mz2 => ?_⟩
    have s710 := s79.trans s10
    have wd : ∀ o ∈ keysD lzD, Wd o := lz_dl.wd
    refine ⟨_, _, dp_strs (SqL.of (s710 _ _ hu)), .lst (SqL.of tz2.at') (dpAll_rows tz2.all), shaped_strs _ (fun o ho => wd o (lgu.mem o ho)), shaped_rows z2 (fun y hy o ho => wd o (lgr.mem o (((mz2 y.2).mp (List.mem_map.mpr ⟨y, hy, rfl⟩)).mem.1 o ho))), ?_⟩
    rw [any_rows, decide_eq_true ((mz2 lzL).mpr lz_dbl)]
    refine ⟨(by show 3 ≤ sizeLine; decide), fun a1 a10 => ?_⟩
    have s11 := Same.new (H := H10) (o := .lst [.bl true, .ref q, .bl true]) a10
    have ha1 : upd H10 a1 (.lst [.bl true, .ref q, .bl true]) a1 = _ := upd_same
    generalize upd H10 a1 (.lst [.bl true, .ref q, .bl true]) = H11 at s11 ha1 ⊢
    refine ⟨_, rfl, (by show 1 ≤ sizeLine; decide), fun a2 a20 => ?_⟩
    have s12 := Same.new (H := H11) (o := .lst [.ref r]) a20
    have ha2 : upd H11 a2 (.lst [.ref r]) a2 = _ := upd_same
    generalize upd H11 a2 (.lst [.ref r]) = H12 at s12 ha2 ⊢
    refine ⟨(by show 3 ≤ sizeLine; decide), fun a3 a30 => ?_⟩
    have s13 := Same.new (H := H12) (o := .lst [.bl true, .ref a2, .bl true]) a30
    have ha3 : upd H12 a3 (.lst [.bl true, .ref a2, .bl true]) a3 = _ := upd_same
    generalize upd H12 a3 (.lst [.bl true, .ref a2, .bl true]) = H13 at s13 ha3 ⊢
    have s1013 : L2.Same H10 H13 := s11.trans (s12.trans s13)
    have er : zs.map (·.2) = [lzO] := srt_eq sz (List.pairwise_singleton _ _) fun x => by rw [mz, lz_hlv, List.mem_singleton]
    have lzs : zs.length = 1 := by have := congrArg List.length er; rwa [List.length_map] at this
    have alk : Alike 6 H13 (.ref a1) (.ref a3) := by
      refine .inr (.inl ⟨a1, a3, _, _, rfl, rfl, s13 _ _ (s12 _ _ ha1), ha3, (by show 3 ≤ 100; decide), ?_⟩)
      refine .cons (.inl (.inr (.inr (.inl ⟨_, rfl, rfl⟩)))) (.cons (alike_tls (ys := [(r, lzO)]) 2 ((tz.mono s10).mono s1013) ⟨s13 _ _ ha2, fun z hz => ?_⟩ er (by omega) fun z hz => ?_) (.cons (.inl (.inr (.inr (.inl ⟨_, rfl, rfl⟩)))) .nil))
      · rw [List.mem_singleton.mp hz]
        exact (s710.trans s1013) _ _ lgr.at'
      · have : z.2 ∈ [lzO] := by rw [← er]; exact List.mem_map.mpr ⟨z, hz, rfl⟩
        rw [List.mem_singleton.mp this]; decide
    refine ⟨_, _, rfl, alk, fun H14 s14 => ?_⟩
    exact k H14 (s1.trans (s2.trans (s24.trans (s5.trans (s6.trans (s7.trans (s710.trans (s1013.trans s14))))))))
end
end KT
set_option Elab.async false
set_option linter.all false
set_option maxRecDepth 100000
set_option maxHeartbeats 4000000
set_option pp.maxSteps 900
namespace KT
open PySem L2 PyProof.Rows DTp TxS
section
variable {P : Program} {w : World} {K : PySem.W.Frag} {mg : Str → Option Value} {base : Heap} {C S : Addr}
def spClosed : Sp := fun vs H Q _ => ∃ (s td dd tl : Addr) (ws : List Str) (f : Str → Str → Str) (dl : List (Str × Str)) (tw : List Str), vs = [.ref s] ∧ SetAt H s td dd tl ws f dl tw ∧ ∀ q t2 H', L2.Same H H' → H q = none → SetAt H' q td dd t2 ws f dl (sqs ws f) → Q (.ref q) H'
theorem scClosed : FnScope ["_law_setting_here"] ["_law_setting_here"] (defScope sClosed) := ⟨rfl, rfl, rfl, by decide +kernel, rfl, by decide +kernel, by decide +kernel⟩
theorem sqs_tok {ws : List Str} {f : Str → Str → Str} (kw : KW ws f) : TwOk ws f (sqs ws f) := ⟨List.Pairwise.sublist List.filter_sublist kw.asc, fun _ h => h⟩
theorem ok_closed {g : Addr} {fd : FuncData} (F : Fun K "_law_closed" "_law_closed" sClosed g fd) (M : Cee P w K mg base 2 "_law_squares" ["_law_table_here"] spSquares) : FnOk P w K mg base CX0 3 g fd ["_law_setting_here"] spClosed := by
  refine F.ok scClosed (fun vs H Q E h => ?_) (fun cdv A outer s H vs Q E hr h => ?_)
  · obtain ⟨s, td, dd, tl, ws, f, dl, tw, rfl, _⟩ := h
    rfl
  · obtain ⟨s0, td, dd, tl, ws, f, dl, tw, rfl, se, k⟩ := h
    refine ⟨_, pss_one (ps_ret (pe_lst (pa_cons (pe_ix ix_list (pv 0) pe_int (fun _ _ => rfl)) (pa_cons (pe_ix ix_list (pv 0) pe_int (fun _ _ => rfl)) (pa_cons (pe_c M hr rfl (pa_cons (pe_ix ix_list (pv 0) pe_int (fun _ _ => rfl)) pa_nil)) pa_nil))))), ?_⟩
    refine ⟨_, rfl, s0, _, 0, _, rfl, rfl, SqL.of se.hs, atI_nat (j := 0) rfl, _, rfl, s0, _, 1, _, rfl, rfl, SqL.of se.hs, atI_nat (j := 1) rfl, _, rfl, s0, _, 0, _, rfl, rfl, SqL.of se.hs, atI_nat (j := 0) rfl, td, ws, f, rfl, se.ht, se.kw, fun t2 H1 s1 ht20 ht2 => ?_⟩
    refine ⟨(by show 3 ≤ sizeLine; decide), fun q hq => ?_⟩
    have s2 := Same.new (H := H1) (o := .lst [.ref td, .ref dd, .ref t2]) hq
    have se2 := (se.mono s1).mono s2
    exact k q t2 _ (s1.trans s2) (s1.free hq) ⟨upd_same, se2.ht, se2.hd, s2 _ _ ht2, se.kw, se.ok, se.asc, sqs_tok se.kw⟩
end
end KT
set_option Elab.async false
set_option linter.all false
set_option maxRecDepth 100000
set_option maxHeartbeats 4000000
set_option pp.maxSteps 900
namespace KT
open PySem L2 PyProof.Rows DTp TxS
section
variable {P : Program} {w : World} {K : PySem.W.Frag} {mg : Str → Option Value} {base : Heap} {C S : Addr}
theorem scPutAll : FnScope nPutAll ["kinds", "row"] (defScope pPutAll) := ⟨rfl, rfl, rfl, by decide +kernel, rfl, by decide +kernel, by decide +kernel⟩
theorem ok_putAll {g : Addr} {fd : FuncData} (F : Fun K "put_all" "put_all" pPutAll g fd) (T : KTx K mg C) (B : Blt mg) (M : PutC P w K mg base C) : FnOk P w K mg base CX0 5 g fd ["kinds", "row"] (spPutAll C) := by
  refine F.ok scPutAll (fun vs H Q E h => ?_) (fun cdv A outer s H vs Q E hr h => ?_)
  · obtain ⟨p, r, ws, f, x, row, rfl, _⟩ := h
    rfl
  · obtain ⟨p, r, ws, f, x, row, rfl, kd, hrow, few, mr, k⟩ := h
    have nd := scPutAll.nd
    refine ⟨_, pss_cons (ps_expr (pe_c M.chk hr rfl (pa_cons (pv 0) pa_nil)))
      (pss_cons (ps_if (pt_cut <| PW.pt (pw_or (pt_not (pt_val (pe_c M.isk hr rfl (pa_cons (pv 0) (pa_cons (pv 1) pa_nil))))) (pw_or1 (pt_cmpR op_eq (pe_callB call_len_seq (by rfl) B.len PySem.boot_len (pa_cons (pv 1) pa_nil)) pe_int (nomark _))))) (pss_one ps_never) pss_nil)
      (pss_cons (ps_set (i := 2) nd rfl (Or.inl rfl) (pe_m0 M.tab T.cl hr (pv 0)))
      (pss_cons (ps_set (i := 3) nd rfl (Or.inl rfl) (pe_ix ix_list (pv 1) pe_int (fun _ _ => rfl)))
      (pss_cons (ps_for PassesOwn.never rfl (pi_list (pe_slice sl_list (pv 1) (po_some pe_int) po_none)) (pg_name (i := 4) nd rfl (Or.inl rfl))
        (pss_one (ps_set (i := 3) nd rfl (Or.inl rfl) (pe_dget (hu_of hr) (pv 2) (pe_tup (pa_cons (pv 3) (pa_cons (pv 4) pa_nil))) (fun _ _ => rfl)))))
      (pss_one (ps_ret (pv 3))))))), ?_⟩
    have kw : KW ws f := let ⟨_, _, _, q⟩ := kd; q.kw
    refine ⟨_, rfl, p, ws, f, rfl, kd, ?_⟩
    refine ⟨fun b H' => b = false ∧ L2.Same H H', ?_, ?_⟩
    · refine ⟨_, rfl, _, rfl, p, r, ws, f, x :: row, rfl, kd, hrow, by rw [List.length_cons]; omega, mr, fun H1 s1 => ⟨_, rfl, iteF ?_⟩⟩
      refine ⟨_, rfl, r, _, rfl, .inl (SqL.of (s1 _ _ hrow)), rfl, _, rfl, ?_⟩
      rw [decide_eq_false]
      · exact ⟨rfl, s1⟩
      · intro e
        injection e with e
        rw [List.length_map, List.length_cons] at e
        omega
    · rintro b H1 ⟨rfl, s1⟩
      refine iteF ?_
      obtain ⟨dx, d, l, kd1⟩ := kd.mono s1
      refine ⟨_, rfl, p, dx, _, rfl, kd1.ob, flds_no _ _ (by decide +kernel) (by decide +kernel), p, ws, f, rfl, ⟨dx, d, l, kd1⟩, fun q H2 s2 hq0 hq => ?_⟩
      refine at_name (σ' := [some (.ref p), some (.ref r), some (.ref q), none, none]) rfl ?_
      have hrow2 := s2 _ _ (s1 _ _ hrow)
      refine ⟨_, rfl, r, _, 0, .str x, rfl, rfl, SqL.of hrow2, atI_nat (j := 0) rfl, ?_⟩
      refine at_name (σ' := [some (.ref p), some (.ref r), some (.ref q), some (.str x), none]) rfl ?_
      refine ⟨_, rfl, _, rfl, r, _, rfl, SqL.of hrow2, fun t ht => ?_⟩
      rw [List.map_cons, cut_tail]
      have s3 := Same.new (H := H2) (o := .lst (row.map V.str)) ht
      have ht3 : upd H2 t (.lst (row.map V.str)) t = _ := upd_same
      generalize upd H2 t (.lst (row.map V.str)) = H3 at s3 ht3 ⊢
      have hq3 := s3 _ _ hq
      have s03 : L2.Same H H3 := fun b o e => s3 _ _ (s2 _ _ (s1 _ _ e))
      refine ⟨t, rfl, ⟨_, SqL.of ht3⟩, ?_⟩
      refine for_list (K := K) (a := t) (xs := row.map V.str) (fun i σ H' => ∃ x4 : Option V, σ = [some (.ref p), some (.ref r), some (.ref q), some (.str ((row.take i).foldl f x)), x4] ∧ L2.Same H3 H') ?_ ?_ ?_ ?_
      · exact ⟨_, rfl, fun _ _ e => e⟩
      · rintro i σ H4 _ ⟨x4, rfl, s4⟩
        exact SqL.of (s4 _ _ ht3)
      · rintro i v σ H4 hv ⟨x4, rfl, s4⟩
        obtain ⟨y, ey, rfl⟩ := str_get hv
        have my := mr y (List.mem_cons_of_mem _ (List.mem_of_getElem? ey))
        have mz := foldl_mem kw (row.take i) x (mr x List.mem_cons_self) fun z hz => mr z (List.mem_cons_of_mem _ (List.mem_of_mem_take hz))
        refine at_name (σ' := [some (.ref p), some (.ref r), some (.ref q), some (.str ((row.take i).foldl f x)), some (.str y)]) rfl ?_
        refine ⟨_, rfl, _, rfl, _, rfl, (by show 2 ≤ sizeLine; decide), fun t2 ht2 => ?_⟩
        have s5 := Same.new (H := H4) (o := .tup [.str ((row.take i).foldl f x), .str y]) ht2
        have td : TabW H4 q ws f := ⟨_, .inl (s4 _ _ hq3), tabW_tb kw.asc.nodup⟩
        refine ⟨q, _, rfl, (td.mono s5).get mz my upd_same, ?_⟩
        refine at_name (σ' := [some (.ref p), some (.ref r), some (.ref q), some (.str (f ((row.take i).foldl f x) y)), some (.str y)]) rfl ?_
        refine ⟨some (.str y), ?_, fun b o e => s5 _ _ (s4 _ _ e)⟩
        rw [take_next' ey, List.foldl_append]
        rfl
      · rintro σ H4 ⟨x4, rfl, s4⟩
        rw [List.length_map, List.take_length]
        exact ⟨_, rfl, k _ fun b o e => s4 _ _ (s03 _ _ e)⟩
theorem scKindOf : FnScope ["setting", "log"] ["setting", "log"] (defScope pKindOf) := ⟨rfl, rfl, rfl, by decide +kernel, rfl, by decide +kernel, by decide +kernel⟩
theorem ok_kindOf {g : Addr} {fd : FuncData} (F : Fun K "kind_of" "kind_of" pKindOf g fd) (TS : STx K mg S) (B0 : Blt mg) (M : LogC P w K mg base S C) (N : KofC P w K mg base S C) (PA : Cee P w K mg base 5 "put_all" ["kinds", "row"] (spPutAll C)) : FnOk P w K mg base CX0 6 g fd ["setting", "log"] (spKindOf S C) := by
  refine F.ok scKindOf (fun vs H Q E h => ?_) (fun cdv A outer s H vs Q E hr h => ?_)
  · obtain ⟨A, ws, f, dl, tw, r, row, rfl, _⟩ := h
    rfl
  · obtain ⟨A0, ws, f, dl, tw, r, row, rfl, st, lg, ne, k⟩ := h
    refine ⟨_, pss_cons (ps_expr (pe_c M.cs hr rfl (pa_cons (pv 0) pa_nil)))
      (pss_cons (ps_expr (pe_c N.cl hr rfl (pa_cons (pv 0) (pa_cons (pv 1) pa_nil))))
      (pss_cons (ps_if (pt_cmpR op_eq (pe_callB call_len_seq (by rfl) B0.len PySem.boot_len (pa_cons (pv 1) pa_nil)) pe_int (nomark _)) (pss_one ps_never) pss_nil)
      (pss_one (ps_ret (pe_c PA hr rfl (pa_cons (pe_m0 M.knd TS.cl hr (pv 0)) (pa_cons (pe_c N.kod hr rfl (pa_cons (pv 0) (pa_cons (pv 1) pa_nil))) pa_nil))))))), ?_⟩
    refine ⟨_, rfl, A0, ws, f, dl, tw, rfl, st, ?_⟩
    refine ⟨_, rfl, _, rfl, A0, ws, f, dl, tw, r, row, rfl, st, lg, fun H1 s1 => ?_⟩
    have lg1 := lg.mono s1
    have st1 := st.mono s1
    obtain ⟨x, row2, rfl⟩ : ∃ x r2, row = x :: r2 := by
      cases row with
      | nil => exact absurd rfl ne
      | cons x r2 => exact ⟨x, r2, rfl⟩
    refine ⟨_, rfl, r, _, rfl, .inl (SqL.of lg1.at'), rfl, _, rfl, ?_⟩
    rw [decide_eq_false (fun e => by
      injection e with e
      rw [List.length_map, List.length_cons] at e
      omega)]
    refine iteF ?_
    refine ⟨_, rfl, A0.q, A0.dx, _, rfl, st1.ob, sflds_no _ _ _ (by decide +kernel) (by decide +kernel) (by decide +kernel), A0, ws, f, dl, tw, rfl, st1, ?_⟩
    refine ⟨_, rfl, _, rfl, A0, ws, f, dl, tw, r, _, rfl, st1, lg1, fun q H2 s2 hq0 hq => ?_⟩
    have few := lg.few
    rw [List.length_cons] at few
    exact ⟨A0.p, q, ws, f, kof dl x, kds dl row2, rfl, (st1.mono s2).kdAt, hq, by rw [kds_len]; omega, kds_mem st.ok lg.mem, fun H3 s3 => k _ (s1.trans (s2.trans s3))⟩
end
end KT
set_option Elab.async false
set_option linter.all false
set_option maxRecDepth 100000
set_option maxHeartbeats 2000000
set_option pp.maxSteps 900
namespace KT
open PySem L2 PyProof.Rows DTp TxS
structure LawC (P : Program) (w : World) (K : PySem.W.Frag) (mg : Str → Option Value) (base : Heap) (S C : Addr) : Prop where
  fx : Cee P w K mg base 10 "_law_fixed_right" [] spFR
  pur : Cee P w K mg base 2 "_law_purses" ["_law_script", "_law_few"] (spPurses K)
  sett : Cee P w K mg base 6 "_law_setting" ["_law_purse_here", "_law_most"] spSetting
  clo : Cee P w K mg base 3 "_law_closed" ["_law_setting_here"] spClosed
  mad : Cee P w K mg base 9 "_law_made" ["_law_setting_here"] (spMade S C)
  draw : DrawC P w K mg base
  log : Cee P w K mg base 4 "_law_log" ["_law_purse_here", "_law_setting_here", "_law_many"] spLog
  lr : Cee P w K mg base 10 "_law_log_right" ["_law_purse_here", "_law_setting_here", "_law_made_here", "_law_log_here"] (spLR S C)
  gr : Cee P w K mg base 10 "_law_great_right" ["_law_purse_here", "_law_setting_here", "_law_made_here"] (spGR S C)
def spLaw (K : PySem.W.Frag) : Sp := fun vs H Q _ => ∃ (a : Addr) (ns : List Int), vs = [.ref a] ∧ SqL K H a (ns.map V.int) ∧ ns.length ≤ 63 ∧ ∀ H', Q (.bl true) H'
section
variable {P : Program} {w : World} {K : PySem.W.Frag} {mg : Str → Option Value} {base : Heap} {C S G : Addr}
abbrev nLaw : List Str := ["_law_script", "_law_purse_here", "_law_setting_here", "_law_made_here", "_law_size"]
theorem scLaw : FnScope nLaw ["_law_script"] (defScope sLaw) := ⟨rfl, rfl, rfl, by decide +kernel, rfl, by decide +kernel, by decide +kernel⟩
theorem ok_law {g : Addr} {fd : FuncData} (F : Fun K "law" "law" sLaw g fd) (B0 : Blt mg) (Z : Blp mg) (M : LawC P w K mg base S C) : FnOk P w K mg base CX0 12 g fd ["_law_script"] (spLaw K) := by
  refine F.ok scLaw (fun vs H Q E h => ?_) (fun cdv A outer s H vs Q E hr h => ?_)
  · obtain ⟨a, ns, rfl, _⟩ := h
    rfl
  · obtain ⟨a, ns, rfl, hS, hl, k⟩ := h
    have nd := scLaw.nd
    refine ⟨_, pss_cons (ps_if (pt_not (pt_val (pe_c0 M.fx hr rfl))) (pss_one (ps_ret (pe_bl))) pss_nil)
      (pss_cons (ps_for PassesOwn.never rfl (pi_list (pe_c M.pur hr rfl (pa_cons (pv 0) (pa_cons (pe_int) (pa_nil))))) (pg_name (i := 1) nd rfl (Or.inl rfl)) (pss_cons (ps_set (i := 2) nd rfl (Or.inl rfl) (pe_c M.sett hr rfl (pa_cons (pv 1) (pa_cons (pe_int) (pa_nil)))))
      (pss_cons (ps_set (i := 3) nd rfl (Or.inl rfl) (pe_c M.mad hr rfl (pa_cons (pv 2) (pa_nil))))
      (pss_cons (ps_for PassesOwn.never rfl (pi_tup (pe_tup (pa_cons (pe_int) (pa_cons (pe_op op_add (pe_int) (pe_c M.draw hr rfl (pa_cons (pv 1) (pa_cons (pe_int) (pa_nil))))) (pa_cons (pe_op op_add (pe_int) (pe_c M.draw hr rfl (pa_cons (pv 1) (pa_cons (pe_int) (pa_nil))))) (pa_nil)))))) (pg_name (i := 4) nd rfl (Or.inl rfl)) (pss_one (ps_if (pt_not (pt_val (pe_c M.lr hr rfl (pa_cons (pv 1) (pa_cons (pv 2) (pa_cons (pv 3) (pa_cons (pe_c M.log hr rfl (pa_cons (pv 1) (pa_cons (pv 2) (pa_cons (pv 4) (pa_nil))))) (pa_nil)))))))) (pss_one (ps_ret (pe_bl))) pss_nil)))
      (pss_cons (ps_if (pt_not (pt_val (pe_c M.gr hr rfl (pa_cons (pv 1) (pa_cons (pv 2) (pa_cons (pv 3) (pa_nil))))))) (pss_one (ps_ret (pe_bl))) pss_nil)
      (pss_one (ps_if (pt_not (pt_val (pe_c M.lr hr rfl (pa_cons (pv 1) (pa_cons (pe_c M.clo hr rfl (pa_cons (pv 2) (pa_nil))) (pa_cons (pe_c M.mad hr rfl (pa_cons (pe_c M.clo hr rfl (pa_cons (pv 2) (pa_nil))) (pa_nil))) (pa_cons (pe_c M.log hr rfl (pa_cons (pv 1) (pa_cons (pv 2) (pa_cons (pe_int) (pa_nil))))) (pa_nil)))))))) (pss_one (ps_ret (pe_bl))) pss_nil)))))))
      (pss_one (ps_ret (pe_bl)))), ?_⟩
    refine ⟨rfl, fun H0 s0 => ⟨_, rfl, iteF ?_⟩⟩
    refine ⟨_, rfl, a, ns, 2, rfl, s0.seq hS, hl, by decide, by decide, fun l ps G s1 hlG hps ndp ne lps => ?_⟩
    refine ⟨l, rfl, ⟨_, SqL.of hlG⟩, ?_⟩
    refine for_list (K := K) (a := l) (xs := ps.map V.ref) (fun i σ H' => ∃ x1 x2 x3 x4, σ = [some (.ref a), x1, x2, x3, x4] ∧ H' l = some (.lst (ps.map V.ref)) ∧ ∀ (j : Nat) (p : Addr), i ≤ j → ps[j]? = some p → PurseAt H' p 0) ?_ ?_ ?_ ?_
    · exact ⟨_, _, _, _, rfl, hlG, fun j p _ hj => (hps p (List.mem_of_getElem? hj)).1⟩
    · rintro i σ H' _ ⟨x1, x2, x3, x4, rfl, hl', _⟩
      exact SqL.of hl'
    · rintro i x σ H1 hx ⟨x1, x2, x3, x4, rfl, hl1, pu⟩
      rw [List.getElem?_map] at hx
      cases ep : ps[i]? with
      | none => rw [ep] at hx; cases hx
      | some p =>
        rw [ep] at hx
        obtain rfl : V.ref p = x := Option.some.inj hx
        have hP := pu i p (Nat.le_refl _) ep
        have npl : l ≠ p := (hps p (List.mem_of_getElem? ep)).2.2.symm
        refine at_name (σ' := [some (.ref a), some (.ref p), x2, x3, x4]) rfl ?_
        refine ⟨_, rfl, p, _, 4, rfl, by decide, by decide, hP, by omega, by omega, fun sa td dd tl ws f dl tw H2 bt2 hP2 se2 => ?_⟩
        refine at_name (σ' := [some (.ref a), some (.ref p), some (.ref sa), x3, x4]) rfl ?_
        refine ⟨_, rfl, sa, td, dd, tl, ws, f, dl, tw, rfl, se2, fun A0 H3 st3 s3 _ => ?_⟩
        refine at_name (σ' := [some (.ref a), some (.ref p), some (.ref sa), some (.ref A0.q), x4]) rfl ?_
        have hP3 := hP2.mono s3
        have se3 := se2.mono s3
        refine ⟨_, rfl, p, 4, _, rfl, hP3, by omega, by omega, by decide, by decide, fun d1 H4 bt4 hP4 d10 d11 => ?_⟩
        obtain ⟨m1, rfl⟩ : ∃ m : Nat, d1 = m := ⟨d1.toNat, by omega⟩
        refine ⟨_, _, rfl, rfl, _, rfl, p, 5, _, rfl, hP4, by omega, by omega, by decide, by decide, fun d2 H5 bt5 hP5 d20 d21 => ?_⟩
        obtain ⟨m2, rfl⟩ : ∃ m : Nat, d2 = m := ⟨d2.toNat, by omega⟩
        refine ⟨_, _, rfl, rfl, (by show 3 ≤ sizeLine; decide), fun T T0 => ?_⟩
        obtain ⟨sz, esz⟩ : ∃ sz : List Nat, sz = [0, 1 + m1, 5 + m2] := ⟨_, rfl⟩
        have evs : ([V.int 0, V.int (1 + ((m1 : Nat) : Int)), V.int (5 + ((m2 : Nat) : Int))] : List V) = sz.map fun n => V.int ((n : Nat) : Int) := by
          rw [esz]
          show [V.int 0, V.int (1 + ((m1 : Nat) : Int)), V.int (5 + ((m2 : Nat) : Int))] = [V.int ((0 : Nat) : Int), V.int ((1 + m1 : Nat) : Int), V.int ((5 + m2 : Nat) : Int)]
          rw [show ((1 + m1 : Nat) : Int) = 1 + ((m1 : Nat) : Int) by omega, show ((5 + m2 : Nat) : Int) = 5 + ((m2 : Nat) : Int) by omega]
          rfl
        have s6 := Same.new (H := H5) (o := .tup [.int 0, .int (1 + ((m1 : Nat) : Int)), .int (5 + ((m2 : Nat) : Int))]) T0
        have hT : upd H5 T (.tup [.int 0, .int (1 + ((m1 : Nat) : Int)), .int (5 + ((m2 : Nat) : Int))]) T = some (.tup (sz.map fun n => V.int ((n : Nat) : Int))) := by rw [← evs]; exact upd_same
        generalize upd H5 T (.tup [.int 0, .int (1 + ((m1 : Nat) : Int)), .int (5 + ((m2 : Nat) : Int))]) = H6 at s6 hT ⊢
        have npT : p ≠ T := hP5.ne T0
        have szl : ∀ n ∈ sz, n ≤ 10 := fun n hn => by
          rw [esz] at hn
          simp only [List.mem_cons, List.not_mem_nil, or_false] at hn
          omega
        have b36 : But p H3 H6 := (bt4.trans bt5).same s6
        have hP6 : PurseAt H6 p 4008 := (hP5.mono s6).le (by omega)
        have seG := se3.purse hP3 b36
        have stG := st3.but b36 (st3.purse hP3)
        have frm : ∀ {H' : Hp}, But p H6 H' → SetAt H' sa td dd tl ws f dl tw ∧ StIn S C H' A0 ws f dl tw := fun b => ⟨seG.purse hP6 b, stG.but b (stG.purse hP6)⟩
        refine ⟨T, rfl, ⟨_, SqT.of hT⟩, ?_⟩
        have lsz : sz.length = 3 := by rw [esz]; rfl
        refine for_it (walk_TI (K := K) (a := T) sz fun n => V.int ((n : Nat) : Int)) (fun i σ H' => ∃ x4 : Option V, σ = [some (.ref a), some (.ref p), some (.ref sa), some (.ref A0.q), x4] ∧ But p H6 H' ∧ PurseAt H' p (4008 + 1700 * i)) ?_ ?_ ?_ ?_
        · exact ⟨_, rfl, But.refl _ _, hP6.le (by omega)⟩
        · rintro j σ H' _ ⟨x4, rfl, bt, _⟩
          exact SqT.of (bt _ _ (Ne.symm npT) hT)
        · rintro j v σ H7' H7 hj ⟨x4, rfl, bt7, hP7⟩ ⟨rfl, n, en, rfl⟩
          have n10 := szl n (List.mem_of_getElem? en)
          have hj3 : j < 3 := by rw [← lsz]; exact hj
          obtain ⟨se7, st7⟩ := frm bt7
          refine at_name (σ' := [some (.ref a), some (.ref p), some (.ref sa), some (.ref A0.q), some (.int (n : Nat))]) rfl ?_
          refine ⟨_, rfl, _, rfl, _, rfl, _, rfl, _, rfl, _, rfl, p, sa, td, dd, tl, _, ws, f, dl, tw, n, rfl, hP7, by omega, by omega, se7, by omega, fun r row H8 bt8 hP8 r0 lg lr => ?_⟩
          obtain ⟨se8, st8⟩ := frm (bt7.trans bt8)
          refine ⟨p, sa, td, dd, tl, r, _, ws, f, dl, tw, A0, row, rfl, hP8, by omega, by omega, se8, st8, lg, by omega, fun H9 bt9 hP9 => ⟨_, rfl, iteF ?_⟩⟩
          exact ⟨_, rfl, (bt7.trans bt8).trans bt9, hP9.le (by omega)⟩
        · rintro σ H7 ⟨x4, rfl, bt7, hP7⟩
          rw [lsz] at hP7
          obtain ⟨se7, st7⟩ := frm bt7
          refine ⟨_, rfl, _, rfl, _, rfl, p, sa, td, dd, tl, _, ws, f, dl, tw, A0, rfl, hP7, by omega, by omega, se7, st7, fun H8 bt8 hP8 => ⟨_, rfl, iteF ?_⟩⟩
          have b68 := bt7.trans bt8
          obtain ⟨se8, st8⟩ := frm b68
          refine ⟨_, rfl, _, rfl, sa, td, dd, tl, ws, f, dl, tw, rfl, se8, fun q t2 H9 s9 q0 seq => ?_⟩
          refine ⟨_, rfl, sa, td, dd, tl, ws, f, dl, tw, rfl, se8.mono s9, fun q' t2' H10 s10 q0' seq' => ?_⟩
          refine ⟨q', td, dd, t2', ws, f, dl, _, rfl, seq', fun A1 H11 st11 s11 _ => ?_⟩
          have s811 := s9.trans (s10.trans s11)
          have hP11 := hP8.mono s811
          refine ⟨_, rfl, _, rfl, p, sa, td, dd, tl, _, ws, f, dl, tw, 6, rfl, hP11, by omega, by omega, se8.mono s811, by omega, fun r row H12 bt12 hP12 r0 lg lr => ?_⟩
          have seq12 := (seq.mono (s10.trans s11)).purse hP11 bt12
          have st12 := st11.but bt12 (st11.purse hP11)
          refine ⟨p, q, td, dd, t2, r, _, ws, f, dl, _, A1, row, rfl, hP12, by omega, by omega, seq12, st12, lg, by omega, fun H13 bt13 hP13 => ⟨_, rfl, iteF ?_⟩⟩
          have bt : But p H1 H13 := (((((bt2.same s3).trans b36).trans b68).same s811).trans bt12).trans bt13
          refine ⟨_, _, _, _, rfl, bt _ _ npl hl1, fun j p' hj hp' => ?_⟩
          have npp : p' ≠ p := fun e => by
            rw [e] at hp'
            have h1 : i < ps.length := (List.getElem?_eq_some_iff.mp ep).1
            have := (List.getElem?_inj h1 ndp).mp (ep.trans hp'.symm)
            omega
          obtain ⟨u1, u2, u3, u4, h1, h2⟩ := pu j p' (by omega) hp'
          exact ⟨u1, u2, u3, u4, bt _ _ npp h1, h2⟩
    · rintro σ H1 _
      exact k H1
end
end KT
set_option Elab.async false
set_option linter.all false
set_option maxRecDepth 100000
set_option maxHeartbeats 0
namespace KT
open PySem PySem.Spec PyProof.Rows L2
section
variable {K : PySem.W.Frag}
/-- a def of no defaults of the text, as Fun -/
theorem fun_of {x qual : Str} {st : Stmt} {f : Addr} {fd : FuncData} (F : FunD K x qual (defArgs st) (defBody st) (defScope st) [] [] f fd) : Fun K x qual st f fd := by
  obtain ⟨oc, od, dV, kV, doc, pm, an, cdv, ct, osl, e, lk, hcd, hD, _⟩ := F.ex
  rcases hD with ⟨_, rfl⟩ | ⟨z, _⟩
  · exact ⟨⟨oc, od, kV, doc, pm, an, cdv, ct, osl, e, lk, hcd⟩, F.kp⟩
  · exact absurd rfl z
/-- keywords alone (behind the first n), no defaults -/
theorem kbindsN {x qual : Str} {params : Arguments} {body : List Stmt} {scope : Scope} {kws : List (Str × V)} {f : Addr} {fd : FuncData} {ps : List Str} (F : FunD K x qual params body scope [] kws f fd) (n : Nat) (ks : List Str) (g : List Value → List Value → List Value) (gV : List V → List V → List V)
    (rel : ∀ {vs : List V} {us : List Value} {zs : List V} {ws : List Value}, Vals vs us → Vals zs ws → Vals (gV vs zs) (g us ws))
    (h : ∀ (kV doc pm : Value) (an : Option Addr) (cdv ct : Value) (us ws : List Value), us.length = n → ws.length = ks.length → bindArgs (PySem.W.fnOf x qual params body scope .none kV doc pm an cdv ct) ⟨us, ks.zip ws⟩ = pure (ps.zip (g us ws))) : KBn K fd ps n ks g gV := by
  obtain ⟨oc, od, dV, kV, doc, pm, an, cdv, ct, osl, rfl, lk, hcd, hD, hK⟩ := F.ex
  rcases hD with ⟨_, rfl⟩ | ⟨e, _⟩
  · exact ⟨fun s us ws X l1 l2 => .of_eq (h kV doc pm an cdv ct us ws l1 l2), rel⟩
  · exact absurd rfl e
end
theorem facts {P : Program} {w : World} {K : PySem.W.Frag} {h : Heap} {mg : Str → Option Value} {f : Addr} (X : K.In h) (G : h.Ns mainGlobals mg) (hfa : mg ("law" : Str) = some (.ref f)) (c : He.SaysD fa fn K) (m : myB K = true) :
    ∃ fd : FuncData, (∀ (s : Shared) (v : Value), BindsTo s fd ⟨[v], []⟩ [("_law_script", v)]) ∧ ∀ base : Heap, K.In base → base.Ns mainGlobals mg → FnOk P w K mg base CX0 12 f fd ["_law_script"] (spLaw K) := by
  unfold myB at m
  unfold oneB at m
  simp only [Bool.and_eq_true, decide_eq_true_eq] at m
  obtain ⟨m2, m3, mkit, ⟨m1, m4, m5, m6, m7, m8, m9⟩, ⟨n1, n4, n5, n6, n7, n8, n9⟩⟩ := m
  have fr : ∀ (i : Nat) (x : Str), fa[i]? = some (.free x) → mg x = none := fun i x e => He.free_ok X G (c.fact i e)
  have gl : ∀ (i : Nat) (x : Str), fa[i]? = some (.glo x) → mg x = some (.ref (He.ga K x)) := fun i x e => He.glo_ok X G (c.fact i e)
  have B : Blt mg := ⟨fr 79 _ rfl, fr 80 _ rfl, fr 81 _ rfl, fr 82 _ rfl, fr 83 _ rfl, fr 84 _ rfl⟩
  have Z : Blp mg := ⟨fr 85 _ rfl, fr 86 _ rfl, fr 87 _ rfl, fr 88 _ rfl, fr 89 _ rfl, fr 90 _ rfl, fr 91 _ rfl, fr 92 _ rfl, He.str_ok X G (c.fact 77 (f := .str "LETTERS" "abcdefghijklmnopqrstuvwxyz") rfl), He.int_ok X G (c.fact 78 (f := .int "LONGEST_WORD" 8) rfl)⟩
  have hz : mg "zip" = none := fr 93 _ rfl
  have han : mg "any" = none := fr 94 _ rfl
  have gC : mg "Kinds" = some (.ref (kC K)) := gl 60 "Kinds" rfl
  have T : KTx K mg (kC K) := ⟨He.cls_ok (c.fact 61 (f := .cls "Kinds") rfl), He.noat_ok (c.fact 62 (f := .noat "Kinds" "_table") rfl), He.noat_ok (c.fact 63 (f := .noat "Kinds" "_words") rfl), gC, He.eqO_ok m1, He.eqO_ok m2, m3, m4, m5⟩
  have nkC : PySem.W.notFirst K (kC K) (.ref (kC K)) = true := m9
  have nfS : PySem.W.notFirst K (sC K) (.ref (sC K)) = true := n9
  have hset : mg "set" = none := fr 95 _ rfl
  have hrev : mg "reversed" = none := fr 96 _ rfl
  have hen : mg "enumerate" = none := fr 97 _ rfl
  have gS : mg "Setting" = some (.ref (sC K)) := gl 68 "Setting" rfl
  have TS : STx K mg (sC K) := ⟨He.cls_ok (c.fact 69 (f := .cls "Setting") rfl), He.noat_ok (c.fact 70 (f := .noat "Setting" "_kinds") rfl), He.noat_ok (c.fact 71 (f := .noat "Setting" "_deeds") rfl), He.noat_ok (c.fact 72 (f := .noat "Setting" "_twice") rfl), gS, He.eqO_ok n1, He.eqO_ok m2, m3, n4, n5⟩
  have MS : Mk K (sC K) (He.fAd K ("Setting", some "__init__")) := He.mkr_ok (c.fact 76 (f := .mkr "Setting") rfl)
  have MK : Mk K (kC K) (He.fAd K ("Kinds", some "__init__")) := He.mkr_ok (c.fact 67 (f := .mkr "Kinds") rfl)
  obtain ⟨fd0, D0⟩ := c.def_ 0 (d := lawD "is_word" pIsWord) rfl
  have b0 : Binds K fd0 ["value"] [] := FunD.bindsN D0 fun _ _ _ _ _ _ us hl => match us, hl with | [_], _ => rfl
  have g0 := gl 0 "is_word" rfl
  have k0 : PySem.W.keepIn K (.ref (He.fAd K ("is_word", none))) = true := D0.kp
  obtain ⟨fd1, D1⟩ := c.def_ 1 (d := lawD "is_ascending" pIsAsc) rfl
  have b1 : Binds K fd1 ["words"] [] := FunD.bindsN D1 fun _ _ _ _ _ _ us hl => match us, hl with | [_], _ => rfl
  have g1 := gl 1 "is_ascending" rfl
  have k1 : PySem.W.keepIn K (.ref (He.fAd K ("is_ascending", none))) = true := D1.kp
  obtain ⟨fd2, D2⟩ := c.def_ 2 (d := lawD "_is_pair" pIsPair) rfl
  have b2 : Binds K fd2 ["value"] [] := FunD.bindsN D2 fun _ _ _ _ _ _ us hl => match us, hl with | [_], _ => rfl
  have g2 := gl 2 "_is_pair" rfl
  have k2 : PySem.W.keepIn K (.ref (He.fAd K ("_is_pair", none))) = true := D2.kp
  obtain ⟨fd3, D3⟩ := c.def_ 3 (d := lawD "_is_full" pIsFull) rfl
  have b3 : Binds K fd3 ["table", "words"] [] := FunD.bindsN D3 fun _ _ _ _ _ _ us hl => match us, hl with | [_, _], _ => rfl
  have g3 := gl 3 "_is_full" rfl
  have k3 : PySem.W.keepIn K (.ref (He.fAd K ("_is_full", none))) = true := D3.kp
  obtain ⟨fd4, D4⟩ := c.def_ 4 (d := lawD "_is_free_of_brackets" pIsFree) rfl
  have b4 : Binds K fd4 ["table", "words"] [] := FunD.bindsN D4 fun _ _ _ _ _ _ us hl => match us, hl with | [_, _], _ => rfl
  have g4 := gl 4 "_is_free_of_brackets" rfl
  have k4 : PySem.W.keepIn K (.ref (He.fAd K ("_is_free_of_brackets", none))) = true := D4.kp
  obtain ⟨fd5, D5⟩ := c.def_ 5 (d := lawD "_is_table" pIsTable) rfl
  have b5 : Binds K fd5 ["table"] [] := FunD.bindsN D5 fun _ _ _ _ _ _ us hl => match us, hl with | [_], _ => rfl
  have g5 := gl 5 "_is_table" rfl
  have k5 : PySem.W.keepIn K (.ref (He.fAd K ("_is_table", none))) = true := D5.kp
  obtain ⟨fd6, D6⟩ := c.def_ 6 (d := mthD "Kinds" "__init__" "Kinds.__init__" kInit) rfl
  have b6 : Binds K fd6 ["self", "table"] [] := FunD.bindsN D6 fun _ _ _ _ _ _ us hl => match us, hl with | [_, _], _ => rfl
  obtain ⟨fd7, D7⟩ := c.def_ 7 (d := mthD "Kinds" "table" "Kinds.table" kTable) rfl
  have b7 : Binds K fd7 ["self"] [] := FunD.bindsN D7 fun _ _ _ _ _ _ us hl => match us, hl with | [_], _ => rfl
  obtain ⟨fd8, D8⟩ := c.def_ 8 (d := mthD "Kinds" "words" "Kinds.words" kWords) rfl
  have b8 : Binds K fd8 ["self"] [] := FunD.bindsN D8 fun _ _ _ _ _ _ us hl => match us, hl with | [_], _ => rfl
  obtain ⟨fd9, D9⟩ := c.def_ 9 (d := lawD "is_kind" pIsKind) rfl
  have b9 : Binds K fd9 ["kinds", "value"] [] := FunD.bindsN D9 fun _ _ _ _ _ _ us hl => match us, hl with | [_, _], _ => rfl
  have g9 := gl 6 "is_kind" rfl
  have k9 : PySem.W.keepIn K (.ref (He.fAd K ("is_kind", none))) = true := D9.kp
  obtain ⟨fd10, D10⟩ := c.def_ 10 (d := lawD "check_kind" pCheckKind) rfl
  have b10 : Binds K fd10 ["kinds", "kind"] [] := FunD.bindsN D10 fun _ _ _ _ _ _ us hl => match us, hl with | [_, _], _ => rfl
  have g10 := gl 7 "check_kind" rfl
  have k10 : PySem.W.keepIn K (.ref (He.fAd K ("check_kind", none))) = true := D10.kp
  obtain ⟨fd11, D11⟩ := c.def_ 11 (d := lawD "check_kinds" pCheckKinds) rfl
  have b11 : Binds K fd11 ["kinds"] [] := FunD.bindsN D11 fun _ _ _ _ _ _ us hl => match us, hl with | [_], _ => rfl
  have g11 := gl 8 "check_kinds" rfl
  have k11 : PySem.W.keepIn K (.ref (He.fAd K ("check_kinds", none))) = true := D11.kp
  obtain ⟨fd12, D12⟩ := c.def_ 12 (d := mthD "Kinds" "put" "Kinds.put" kPut) rfl
  have b12 : Binds K fd12 ["self", "one", "other"] [] := FunD.bindsN D12 fun _ _ _ _ _ _ us hl => match us, hl with | [_, _, _], _ => rfl
  obtain ⟨fd13, D13⟩ := c.def_ 13 (d := mthD "Kinds" "__eq__" "Kinds.__eq__" kEq) rfl
  have b13 : Binds K fd13 ["self", "other"] [] := FunD.bindsN D13 fun _ _ _ _ _ _ us hl => match us, hl with | [_, _], _ => rfl
  obtain ⟨fd14, D14⟩ := c.def_ 14 (d := lawD "is_list_of_kinds" pIsKinds) rfl
  have b14 : Binds K fd14 ["kinds", "value"] [] := FunD.bindsN D14 fun _ _ _ _ _ _ us hl => match us, hl with | [_, _], _ => rfl
  have g14 := gl 9 "is_list_of_kinds" rfl
  have k14 : PySem.W.keepIn K (.ref (He.fAd K ("is_list_of_kinds", none))) = true := D14.kp
  obtain ⟨fd15, D15⟩ := c.def_ 15 (d := lawD "put_all" pPutAll) rfl
  have b15 : Binds K fd15 ["kinds", "row"] [] := FunD.bindsN D15 fun _ _ _ _ _ _ us hl => match us, hl with | [_, _], _ => rfl
  have g15 := gl 10 "put_all" rfl
  have k15 : PySem.W.keepIn K (.ref (He.fAd K ("put_all", none))) = true := D15.kp
  obtain ⟨fd16, D16⟩ := c.def_ 16 (d := lawD "own_squares" pOwnSquares) rfl
  have b16 : Binds K fd16 ["kinds"] [] := FunD.bindsN D16 fun _ _ _ _ _ _ us hl => match us, hl with | [_], _ => rfl
  have g16 := gl 11 "own_squares" rfl
  have k16 : PySem.W.keepIn K (.ref (He.fAd K ("own_squares", none))) = true := D16.kp
  obtain ⟨fd17, D17⟩ := c.def_ 17 (d := lawD "_are_deeds" pAreDeeds) rfl
  have b17 : Binds K fd17 ["kinds", "deeds"] [] := FunD.bindsN D17 fun _ _ _ _ _ _ us hl => match us, hl with | [_, _], _ => rfl
  have g17 := gl 12 "_are_deeds" rfl
  have k17 : PySem.W.keepIn K (.ref (He.fAd K ("_are_deeds", none))) = true := D17.kp
  obtain ⟨fd18, D18⟩ := c.def_ 18 (d := lawD "_is_twice" pIsTwice) rfl
  have b18 : Binds K fd18 ["kinds", "twice"] [] := FunD.bindsN D18 fun _ _ _ _ _ _ us hl => match us, hl with | [_, _], _ => rfl
  have g18 := gl 13 "_is_twice" rfl
  have k18 : PySem.W.keepIn K (.ref (He.fAd K ("_is_twice", none))) = true := D18.kp
  obtain ⟨fd19, D19⟩ := c.def_ 19 (d := mthD "Setting" "__init__" "Setting.__init__" sInit) rfl
  have b19 : Binds K fd19 ["self", "kinds", "deeds", "twice"] [] := FunD.bindsN D19 fun _ _ _ _ _ _ us hl => match us, hl with | [_, _, _, _], _ => rfl
  obtain ⟨fd20, D20⟩ := c.def_ 20 (d := mthD "Setting" "kinds" "Setting.kinds" sKinds) rfl
  have b20 : Binds K fd20 ["self"] [] := FunD.bindsN D20 fun _ _ _ _ _ _ us hl => match us, hl with | [_], _ => rfl
  obtain ⟨fd21, D21⟩ := c.def_ 21 (d := mthD "Setting" "deeds" "Setting.deeds" sDeeds) rfl
  have b21 : Binds K fd21 ["self"] [] := FunD.bindsN D21 fun _ _ _ _ _ _ us hl => match us, hl with | [_], _ => rfl
  obtain ⟨fd22, D22⟩ := c.def_ 22 (d := mthD "Setting" "twice" "Setting.twice" sTwice) rfl
  have b22 : Binds K fd22 ["self"] [] := FunD.bindsN D22 fun _ _ _ _ _ _ us hl => match us, hl with | [_], _ => rfl
  obtain ⟨fd23, D23⟩ := c.def_ 23 (d := mthD "Setting" "__eq__" "Setting.__eq__" sEq) rfl
  have b23 : Binds K fd23 ["self", "other"] [] := FunD.bindsN D23 fun _ _ _ _ _ _ us hl => match us, hl with | [_, _], _ => rfl
  obtain ⟨fd24, D24⟩ := c.def_ 24 (d := lawD "check_setting" pCheckSetting) rfl
  have b24 : Binds K fd24 ["setting"] [] := FunD.bindsN D24 fun _ _ _ _ _ _ us hl => match us, hl with | [_], _ => rfl
  have g24 := gl 14 "check_setting" rfl
  have k24 : PySem.W.keepIn K (.ref (He.fAd K ("check_setting", none))) = true := D24.kp
  obtain ⟨fd25, D25⟩ := c.def_ 25 (d := lawD "is_log" pIsLog) rfl
  have b25 : Binds K fd25 ["setting", "value"] [] := FunD.bindsN D25 fun _ _ _ _ _ _ us hl => match us, hl with | [_, _], _ => rfl
  have g25 := gl 15 "is_log" rfl
  have k25 : PySem.W.keepIn K (.ref (He.fAd K ("is_log", none))) = true := D25.kp
  obtain ⟨fd26, D26⟩ := c.def_ 26 (d := lawD "check_log" pCheckLog) rfl
  have b26 : Binds K fd26 ["setting", "log"] [] := FunD.bindsN D26 fun _ _ _ _ _ _ us hl => match us, hl with | [_, _], _ => rfl
  have g26 := gl 16 "check_log" rfl
  have k26 : PySem.W.keepIn K (.ref (He.fAd K ("check_log", none))) = true := D26.kp
  obtain ⟨fd27, D27⟩ := c.def_ 27 (d := lawD "kinds_of_deeds" pKindsOfDeeds) rfl
  have b27 : Binds K fd27 ["setting", "log"] [] := FunD.bindsN D27 fun _ _ _ _ _ _ us hl => match us, hl with | [_, _], _ => rfl
  have g27 := gl 17 "kinds_of_deeds" rfl
  have k27 : PySem.W.keepIn K (.ref (He.fAd K ("kinds_of_deeds", none))) = true := D27.kp
  obtain ⟨fd28, D28⟩ := c.def_ 28 (d := lawD "kind_of" pKindOf) rfl
  have b28 : Binds K fd28 ["setting", "log"] [] := FunD.bindsN D28 fun _ _ _ _ _ _ us hl => match us, hl with | [_, _], _ => rfl
  have g28 := gl 18 "kind_of" rfl
  have k28 : PySem.W.keepIn K (.ref (He.fAd K ("kind_of", none))) = true := D28.kp
  obtain ⟨fd29, D29⟩ := c.def_ 29 (d := lawD "opposite" pOpposite) rfl
  have b29 : Binds K fd29 ["kinds"] [] := FunD.bindsN D29 fun _ _ _ _ _ _ us hl => match us, hl with | [_], _ => rfl
  have g29 := gl 19 "opposite" rfl
  have k29 : PySem.W.keepIn K (.ref (He.fAd K ("opposite", none))) = true := D29.kp
  obtain ⟨fd30, D30⟩ := c.def_ 30 (d := lawD "opposite_setting" pOppSet) rfl
  have b30 : Binds K fd30 ["setting"] [] := FunD.bindsN D30 fun _ _ _ _ _ _ us hl => match us, hl with | [_], _ => rfl
  have g30 := gl 20 "opposite_setting" rfl
  have k30 : PySem.W.keepIn K (.ref (He.fAd K ("opposite_setting", none))) = true := D30.kp
  obtain ⟨fd31, D31⟩ := c.def_ 31 (d := lawD "check_two_logs" sTwoL) rfl
  have b31 : Binds K fd31 ["setting", "one", "other"] [] := FunD.bindsN D31 fun _ _ _ _ _ _ us hl => match us, hl with | [_, _, _], _ => rfl
  have g31 := gl 21 "check_two_logs" rfl
  have k31 : PySem.W.keepIn K (.ref (He.fAd K ("check_two_logs", none))) = true := D31.kp
  obtain ⟨fd32, D32⟩ := c.def_ 32 (d := lawD "stretch_kinds" pStretch) rfl
  have b32 : Binds K fd32 ["kinds", "row"] [] := FunD.bindsN D32 fun _ _ _ _ _ _ us hl => match us, hl with | [_, _], _ => rfl
  have g32 := gl 22 "stretch_kinds" rfl
  have k32 : PySem.W.keepIn K (.ref (He.fAd K ("stretch_kinds", none))) = true := D32.kp
  obtain ⟨fd33, D33⟩ := c.def_ 33 (d := lawD "_twice_stretches" sTwS) rfl
  have b33 : Binds K fd33 ["setting", "log"] [] := FunD.bindsN D33 fun _ _ _ _ _ _ us hl => match us, hl with | [_, _], _ => rfl
  have g33 := gl 23 "_twice_stretches" rfl
  have k33 : PySem.W.keepIn K (.ref (He.fAd K ("_twice_stretches", none))) = true := D33.kp
  obtain ⟨fd34, D34⟩ := c.def_ 34 (d := lawD "_different" sDiff) rfl
  have b34 : Binds K fd34 ["logs"] [] := FunD.bindsN D34 fun _ _ _ _ _ _ us hl => match us, hl with | [_], _ => rfl
  have g34 := gl 24 "_different" rfl
  have k34 : PySem.W.keepIn K (.ref (He.fAd K ("_different", none))) = true := D34.kp
  obtain ⟨fd35, D35⟩ := c.def_ 35 (d := lawD "doublings" sDbls) rfl
  have b35 : Binds K fd35 ["setting", "log"] [] := FunD.bindsN D35 fun _ _ _ _ _ _ us hl => match us, hl with | [_, _], _ => rfl
  have g35 := gl 25 "doublings" rfl
  have k35 : PySem.W.keepIn K (.ref (He.fAd K ("doublings", none))) = true := D35.kp
  obtain ⟨fd36, D36⟩ := c.def_ 36 (d := lawD "_halved" sHalf) rfl
  have b36 : Binds K fd36 ["setting", "log"] [] := FunD.bindsN D36 fun _ _ _ _ _ _ us hl => match us, hl with | [_, _], _ => rfl
  have g36 := gl 26 "_halved" rfl
  have k36 : PySem.W.keepIn K (.ref (He.fAd K ("_halved", none))) = true := D36.kp
  obtain ⟨fd37, D37⟩ := c.def_ 37 (d := lawD "halvings" sHvs) rfl
  have b37 : Binds K fd37 ["setting", "log"] [] := FunD.bindsN D37 fun _ _ _ _ _ _ us hl => match us, hl with | [_, _], _ => rfl
  have g37 := gl 27 "halvings" rfl
  have k37 : PySem.W.keepIn K (.ref (He.fAd K ("halvings", none))) = true := D37.kp
  obtain ⟨fd38, D38⟩ := c.def_ 38 (d := lawD "is_doubling" sIsDb) rfl
  have b38 : Binds K fd38 ["setting", "one", "other"] [] := FunD.bindsN D38 fun _ _ _ _ _ _ us hl => match us, hl with | [_, _, _], _ => rfl
  have g38 := gl 28 "is_doubling" rfl
  have k38 : PySem.W.keepIn K (.ref (He.fAd K ("is_doubling", none))) = true := D38.kp
  obtain ⟨fd39, D39⟩ := c.def_ 39 (d := lawD "_law_purse" sPurse) rfl
  have b39 : Binds K fd39 ["_law_script", "_law_at"] [] := FunD.bindsN D39 fun _ _ _ _ _ _ us hl => match us, hl with | [_, _], _ => rfl
  have g39 := gl 29 "_law_purse" rfl
  have k39 : PySem.W.keepIn K (.ref (He.fAd K ("_law_purse", none))) = true := D39.kp
  obtain ⟨fd40, D40⟩ := c.def_ 40 (d := lawD "_law_mixed" sMixed) rfl
  have b40 : Binds K fd40 ["_law_seed", "_law_spin", "_law_at"] [] := FunD.bindsN D40 fun _ _ _ _ _ _ us hl => match us, hl with | [_, _, _], _ => rfl
  have g40 := gl 30 "_law_mixed" rfl
  have k40 : PySem.W.keepIn K (.ref (He.fAd K ("_law_mixed", none))) = true := D40.kp
  obtain ⟨fd41, D41⟩ := c.def_ 41 (d := lawD "_law_draw" sDraw) rfl
  have b41 : Binds K fd41 ["_law_purse_here", "_law_many"] [] := FunD.bindsN D41 fun _ _ _ _ _ _ us hl => match us, hl with | [_, _], _ => rfl
  have g41 := gl 31 "_law_draw" rfl
  have k41 : PySem.W.keepIn K (.ref (He.fAd K ("_law_draw", none))) = true := D41.kp
  obtain ⟨fd42, D42⟩ := c.def_ 42 (d := lawD "_law_purses" sPurses) rfl
  have b42 : Binds K fd42 ["_law_script", "_law_few"] [] := FunD.bindsN D42 fun _ _ _ _ _ _ us hl => match us, hl with | [_, _], _ => rfl
  have g42 := gl 32 "_law_purses" rfl
  have k42 : PySem.W.keepIn K (.ref (He.fAd K ("_law_purses", none))) = true := D42.kp
  obtain ⟨fd43, D43⟩ := c.def_ 43 (d := lawD "_law_one_of" sOneOf) rfl
  have b43 : Binds K fd43 ["_law_purse_here", "_law_some"] [] := FunD.bindsN D43 fun _ _ _ _ _ _ us hl => match us, hl with | [_, _], _ => rfl
  have g43 := gl 33 "_law_one_of" rfl
  have k43 : PySem.W.keepIn K (.ref (He.fAd K ("_law_one_of", none))) = true := D43.kp
  obtain ⟨fd44, D44⟩ := c.def_ 44 (d := lawD "_law_exact" sExact) rfl
  have b44 : Binds K fd44 ["_law_mine", "_law_theirs"] [] := FunD.bindsN D44 fun _ _ _ _ _ _ us hl => match us, hl with | [_, _], _ => rfl
  have g44 := gl 34 "_law_exact" rfl
  have k44 : PySem.W.keepIn K (.ref (He.fAd K ("_law_exact", none))) = true := D44.kp
  obtain ⟨fd45, D45⟩ := c.def_ 45 (d := lawD "_law_word" sWord) rfl
  have b45 : Binds K fd45 ["_law_purse_here"] [] := FunD.bindsN D45 fun _ _ _ _ _ _ us hl => match us, hl with | [_], _ => rfl
  have g45 := gl 35 "_law_word" rfl
  have k45 : PySem.W.keepIn K (.ref (He.fAd K ("_law_word", none))) = true := D45.kp
  obtain ⟨fd46, D46⟩ := c.def_ 46 (d := lawD "_law_words" sWords) rfl
  have b46 : Binds K fd46 ["_law_purse_here", "_law_many"] [] := FunD.bindsN D46 fun _ _ _ _ _ _ us hl => match us, hl with | [_, _], _ => rfl
  have g46 := gl 36 "_law_words" rfl
  have k46 : PySem.W.keepIn K (.ref (He.fAd K ("_law_words", none))) = true := D46.kp
  obtain ⟨fd47, D47⟩ := c.def_ 47 (d := lawD "_law_plain_table" sPlain) rfl
  have b47 : Binds K fd47 ["_law_way", "_law_many"] [] := FunD.bindsN D47 fun _ _ _ _ _ _ us hl => match us, hl with | [_, _], _ => rfl
  have g47 := gl 37 "_law_plain_table" rfl
  have k47 : PySem.W.keepIn K (.ref (He.fAd K ("_law_plain_table", none))) = true := D47.kp
  obtain ⟨fd48, D48⟩ := c.def_ 48 (d := lawD "_law_wide_table" sWide) rfl
  have b48 : Binds K fd48 ["_law_told", "_law_many", "_law_way"] [] := FunD.bindsN D48 fun _ _ _ _ _ _ us hl => match us, hl with | [_, _, _], _ => rfl
  have g48 := gl 38 "_law_wide_table" rfl
  have k48 : PySem.W.keepIn K (.ref (He.fAd K ("_law_wide_table", none))) = true := D48.kp
  obtain ⟨fd49, D49⟩ := c.def_ 49 (d := lawD "_law_twofold_table" sTwofold) rfl
  have b49 : Binds K fd49 ["_law_one", "_law_other"] [] := FunD.bindsN D49 fun _ _ _ _ _ _ us hl => match us, hl with | [_, _], _ => rfl
  have g49 := gl 39 "_law_twofold_table" rfl
  have k49 : PySem.W.keepIn K (.ref (He.fAd K ("_law_twofold_table", none))) = true := D49.kp
  obtain ⟨fd50, D50⟩ := c.def_ 50 (d := lawD "_law_twin_table" sTwin) rfl
  have b50 : Binds K fd50 ["_law_told", "_law_many", "_law_twin"] [] := FunD.bindsN D50 fun _ _ _ _ _ _ us hl => match us, hl with | [_, _, _], _ => rfl
  have g50 := gl 40 "_law_twin_table" rfl
  have k50 : PySem.W.keepIn K (.ref (He.fAd K ("_law_twin_table", none))) = true := D50.kp
  obtain ⟨fd51, D51⟩ := c.def_ 51 (d := lawD "_law_leading_table" sLeading) rfl
  have b51 : Binds K fd51 ["_law_told", "_law_many"] [] := FunD.bindsN D51 fun _ _ _ _ _ _ us hl => match us, hl with | [_, _], _ => rfl
  have g51 := gl 41 "_law_leading_table" rfl
  have k51 : PySem.W.keepIn K (.ref (He.fAd K ("_law_leading_table", none))) = true := D51.kp
  obtain ⟨fd52, D52⟩ := c.def_ 52 (d := lawD "_law_cyclic_table" sCyclic) rfl
  have b52 : Binds K fd52 ["_law_many", "_law_lead"] [] := FunD.bindsN D52 fun _ _ _ _ _ _ us hl => match us, hl with | [_, _], _ => rfl
  have g52 := gl 42 "_law_cyclic_table" rfl
  have k52 : PySem.W.keepIn K (.ref (He.fAd K ("_law_cyclic_table", none))) = true := D52.kp
  obtain ⟨fd53, D53⟩ := c.def_ 53 (d := lawD "_law_any_table" sAny) rfl
  have b53 : Binds K fd53 ["_law_purse_here", "_law_many"] [] := FunD.bindsN D53 fun _ _ _ _ _ _ us hl => match us, hl with | [_, _], _ => rfl
  have g53 := gl 43 "_law_any_table" rfl
  have k53 : PySem.W.keepIn K (.ref (He.fAd K ("_law_any_table", none))) = true := D53.kp
  obtain ⟨fd54, D54⟩ := c.def_ 54 (d := lawD "_law_table" sTable) rfl
  have b54 : Binds K fd54 ["_law_purse_here", "_law_most"] [] := FunD.bindsN D54 fun _ _ _ _ _ _ us hl => match us, hl with | [_, _], _ => rfl
  have g54 := gl 44 "_law_table" rfl
  have k54 : PySem.W.keepIn K (.ref (He.fAd K ("_law_table", none))) = true := D54.kp
  obtain ⟨fd55, D55⟩ := c.def_ 55 (d := lawD "_law_kinds_of" sKindsOf) rfl
  have b55 : Binds K fd55 ["_law_table_here"] [] := FunD.bindsN D55 fun _ _ _ _ _ _ us hl => match us, hl with | [_], _ => rfl
  have g55 := gl 45 "_law_kinds_of" rfl
  have k55 : PySem.W.keepIn K (.ref (He.fAd K ("_law_kinds_of", none))) = true := D55.kp
  obtain ⟨fd56, D56⟩ := c.def_ 56 (d := lawD "_law_squares" sSquares) rfl
  have b56 : Binds K fd56 ["_law_table_here"] [] := FunD.bindsN D56 fun _ _ _ _ _ _ us hl => match us, hl with | [_], _ => rfl
  have g56 := gl 46 "_law_squares" rfl
  have k56 : PySem.W.keepIn K (.ref (He.fAd K ("_law_squares", none))) = true := D56.kp
  obtain ⟨fd57, D57⟩ := c.def_ 57 (d := lawD "_law_setting" sSetting) rfl
  have b57 : Binds K fd57 ["_law_purse_here", "_law_most"] [] := FunD.bindsN D57 fun _ _ _ _ _ _ us hl => match us, hl with | [_, _], _ => rfl
  have g57 := gl 47 "_law_setting" rfl
  have k57 : PySem.W.keepIn K (.ref (He.fAd K ("_law_setting", none))) = true := D57.kp
  obtain ⟨fd58, D58⟩ := c.def_ 58 (d := lawD "_law_log" sLog) rfl
  have b58 : Binds K fd58 ["_law_purse_here", "_law_setting_here", "_law_many"] [] := FunD.bindsN D58 fun _ _ _ _ _ _ us hl => match us, hl with | [_, _, _], _ => rfl
  have g58 := gl 48 "_law_log" rfl
  have k58 : PySem.W.keepIn K (.ref (He.fAd K ("_law_log", none))) = true := D58.kp
  obtain ⟨fd59, D59⟩ := c.def_ 59 (d := lawD "_law_kind" sKind) rfl
  have b59 : Binds K fd59 ["_law_setting_here", "_law_log_here"] [] := FunD.bindsN D59 fun _ _ _ _ _ _ us hl => match us, hl with | [_, _], _ => rfl
  have g59 := gl 49 "_law_kind" rfl
  have k59 : PySem.W.keepIn K (.ref (He.fAd K ("_law_kind", none))) = true := D59.kp
  obtain ⟨fd60, D60⟩ := c.def_ 60 (d := lawD "_law_made" sMade) rfl
  have b60 : Binds K fd60 ["_law_setting_here"] [] := FunD.bindsN D60 fun _ _ _ _ _ _ us hl => match us, hl with | [_], _ => rfl
  have g60 := gl 50 "_law_made" rfl
  have k60 : PySem.W.keepIn K (.ref (He.fAd K ("_law_made", none))) = true := D60.kp
  obtain ⟨fd61, D61⟩ := c.def_ 61 (d := lawD "_law_may_twice" sMay) rfl
  have b61 : Binds K fd61 ["_law_setting_here", "_law_log_here"] [] := FunD.bindsN D61 fun _ _ _ _ _ _ us hl => match us, hl with | [_, _], _ => rfl
  have g61 := gl 51 "_law_may_twice" rfl
  have k61 : PySem.W.keepIn K (.ref (He.fAd K ("_law_may_twice", none))) = true := D61.kp
  obtain ⟨fd62, D62⟩ := c.def_ 62 (d := lawD "_law_doublings" sDb) rfl
  have b62 : Binds K fd62 ["_law_setting_here", "_law_log_here"] [] := FunD.bindsN D62 fun _ _ _ _ _ _ us hl => match us, hl with | [_, _], _ => rfl
  have g62 := gl 52 "_law_doublings" rfl
  have k62 : PySem.W.keepIn K (.ref (He.fAd K ("_law_doublings", none))) = true := D62.kp
  obtain ⟨fd63, D63⟩ := c.def_ 63 (d := lawD "_law_halvings" sHv) rfl
  have b63 : Binds K fd63 ["_law_setting_here", "_law_log_here"] [] := FunD.bindsN D63 fun _ _ _ _ _ _ us hl => match us, hl with | [_, _], _ => rfl
  have g63 := gl 53 "_law_halvings" rfl
  have k63 : PySem.W.keepIn K (.ref (He.fAd K ("_law_halvings", none))) = true := D63.kp
  obtain ⟨fd64, D64⟩ := c.def_ 64 (d := lawD "_law_closed" sClosed) rfl
  have b64 : Binds K fd64 ["_law_setting_here"] [] := FunD.bindsN D64 fun _ _ _ _ _ _ us hl => match us, hl with | [_], _ => rfl
  have g64 := gl 54 "_law_closed" rfl
  have k64 : PySem.W.keepIn K (.ref (He.fAd K ("_law_closed", none))) = true := D64.kp
  obtain ⟨fd65, D65⟩ := c.def_ 65 (d := lawD "_law_is_doubled" sLDb) rfl
  have b65 : Binds K fd65 ["_law_setting_here", "_law_one", "_law_other"] [] := FunD.bindsN D65 fun _ _ _ _ _ _ us hl => match us, hl with | [_, _, _], _ => rfl
  have g65 := gl 55 "_law_is_doubled" rfl
  have k65 : PySem.W.keepIn K (.ref (He.fAd K ("_law_is_doubled", none))) = true := D65.kp
  obtain ⟨fd66, D66⟩ := c.def_ 66 (d := lawD "_law_log_right" sLR) rfl
  have b66 : Binds K fd66 ["_law_purse_here", "_law_setting_here", "_law_made_here", "_law_log_here"] [] := FunD.bindsN D66 fun _ _ _ _ _ _ us hl => match us, hl with | [_, _, _, _], _ => rfl
  have g66 := gl 56 "_law_log_right" rfl
  have k66 : PySem.W.keepIn K (.ref (He.fAd K ("_law_log_right", none))) = true := D66.kp
  obtain ⟨fd67, D67⟩ := c.def_ 67 (d := lawD "_law_great_right" sGR) rfl
  have b67 : Binds K fd67 ["_law_purse_here", "_law_setting_here", "_law_made_here"] [] := FunD.bindsN D67 fun _ _ _ _ _ _ us hl => match us, hl with | [_, _, _], _ => rfl
  have g67 := gl 57 "_law_great_right" rfl
  have k67 : PySem.W.keepIn K (.ref (He.fAd K ("_law_great_right", none))) = true := D67.kp
  obtain ⟨fd68, D68⟩ := c.def_ 68 (d := lawD "_law_fixed_right" sFR) rfl
  have b68 : Binds K fd68 [] [] := FunD.bindsN D68 fun _ _ _ _ _ _ us hl => match us, hl with | [], _ => rfl
  have g68 := gl 58 "_law_fixed_right" rfl
  have k68 : PySem.W.keepIn K (.ref (He.fAd K ("_law_fixed_right", none))) = true := D68.kp
  obtain ⟨fd69, D69⟩ := c.def_ 69 (d := lawD "law" sLaw) rfl
  have bL := FunD.bindsA (ps := ["_law_script"]) D69 fun _ _ _ _ _ _ us hl => match us, hl with | [_], _ => rfl
  have e := hfa.symm.trans (gl 59 "law" rfl)
  cases e
  refine ⟨fd69, fun s v => bL s [v] rfl, fun base iB nB => ?_⟩
  have iw : Cee P w K mg base 1 "is_word" ["value"] spIsWord := ⟨_, fd0, ok_isWord (fun_of D0) B Z, g0, k0, b0⟩
  have ia : Cee P w K mg base 1 "is_ascending" ["words"] spIsAsc := ⟨_, fd1, ok_isAsc (fun_of D1) Z hz, g1, k1, b1⟩
  have ip : Cee P w K mg base 2 "_is_pair" ["value"] spIsPair := ⟨_, fd2, ok_isPair (fun_of D2) B Z iw, g2, k2, b2⟩
  have fu : Cee P w K mg base 1 "_is_full" ["table", "words"] spIsFull := ⟨_, fd3, ok_isFull (fun_of D3) B Z, g3, k3, b3⟩
  have fr_ : Cee P w K mg base 1 "_is_free_of_brackets" ["table", "words"] spIsFull := ⟨_, fd4, ok_isFree (fun_of D4) B Z, g4, k4, b4⟩
  have it : Cee P w K mg base 3 "_is_table" ["table"] spIsTable := ⟨_, fd5, ok_isTable (fun_of D5) B Z ⟨ip, fu, fr_⟩, g5, k5, b5⟩
  have NK0 : FnOk P w K mg base CX0 4 (He.fAd K ("Kinds", some "__init__")) fd6 ["self", "table"] (spKInit (kC K)) := ok_kinit (fun_of D6) T Z it
  have NK : KMk P w K mg base (kC K) := ⟨_, fd6, MK, NK0, b6⟩
  have kta : Mee P w K mg base (kC K) 1 "table" ["self"] (spKTable (kC K)) := ⟨_, fd7, He.meth_ok (c.fact 64 (f := .meth "Kinds" "table") rfl), ok_ktable (fun_of D7) T, b7⟩
  have kwo : Mee P w K mg base (kC K) 1 "words" ["self"] (spKWords (kC K)) := ⟨_, fd8, He.meth_ok (c.fact 65 (f := .meth "Kinds" "words") rfl), ok_kwords (fun_of D8) T Z, b8⟩
  have ik : Cee P w K mg base 2 "is_kind" ["kinds", "value"] (spIsKind (kC K)) := ⟨_, fd9, ok_isKind (fun_of D9) T Z kwo, g9, k9, b9⟩
  have chd : Cee P w K mg base 3 "check_kind" ["kinds", "kind"] (spCheckKind (kC K)) := ⟨_, fd10, ok_checkKind (fun_of D10) ik, g10, k10, b10⟩
  have chk : Cee P w K mg base 1 "check_kinds" ["kinds"] (spCheckKinds (kC K)) := ⟨_, fd11, ok_checkKinds (fun_of D11) T Z, g11, k11, b11⟩
  have kpu : Mee P w K mg base (kC K) 4 "put" ["self", "one", "other"] (spKPut (kC K)) := ⟨_, fd12, He.meth_ok (c.fact 66 (f := .meth "Kinds" "put") rfl), ok_kput (fun_of D12) T chd, b12⟩
  have EQ : OwQ.EqC P w K mg base 1 (kC K) (spKEq K (kC K)) := ⟨⟨_, fd13, _, ok_keq (fun_of D13) T Z, He.eqO_ok m6, m7, b13⟩, He.eqO_ok m8, m4⟩
  have iks : Cee P w K mg base 3 "is_list_of_kinds" ["kinds", "value"] (spIsKinds (kC K)) := ⟨_, fd14, ok_isKinds (fun_of D14) Z ik, g14, k14, b14⟩
  have PC : PutC P w K mg base (kC K) := ⟨iks, chk, chd, kta, kwo, kpu⟩
  have pal : Cee P w K mg base 5 "put_all" ["kinds", "row"] (spPutAll (kC K)) := ⟨_, fd15, ok_putAll (fun_of D15) T B PC, g15, k15, b15⟩
  have osq : Cee P w K mg base 5 "own_squares" ["kinds"] (spOwnSq (kC K)) := ⟨_, fd16, ok_ownSq (fun_of D16) T PC, g16, k16, b16⟩
  have DC : DeedsC P w K mg base (kC K) := ⟨iw, ik, iks, ia, osq, chk, kwo, hset⟩
  have ard : Cee P w K mg base 3 "_are_deeds" ["kinds", "deeds"] (spAreDeeds (kC K)) := ⟨_, fd17, ok_areDeeds (fun_of D17) T Z DC, g17, k17, b17⟩
  have itw : Cee P w K mg base 6 "_is_twice" ["kinds", "twice"] (spIsTwice (kC K)) := ⟨_, fd18, ok_isTwice (fun_of D18) T Z DC, g18, k18, b18⟩
  have NS0 : FnOk P w K mg base CX0 7 (He.fAd K ("Setting", some "__init__")) fd19 ["self", "kinds", "deeds", "twice"] (spSInit (sC K) (kC K)) := ok_sinit (fun_of D19) TS T Z ⟨chk, ard, itw⟩
  have NS : SMk P w K mg base (sC K) (kC K) := ⟨_, fd19, MS, NS0, b19⟩
  have skn : Mee P w K mg base (sC K) 1 "kinds" ["self"] (spSKinds (sC K) (kC K)) := ⟨_, fd20, He.meth_ok (c.fact 73 (f := .meth "Setting" "kinds") rfl), ok_skinds (fun_of D20) TS, b20⟩
  have sde : Mee P w K mg base (sC K) 1 "deeds" ["self"] (spSDeeds (sC K) (kC K)) := ⟨_, fd21, He.meth_ok (c.fact 74 (f := .meth "Setting" "deeds") rfl), ok_sdeeds (fun_of D21) TS Z, b21⟩
  have stw : Mee P w K mg base (sC K) 1 "twice" ["self"] (spSTwice (sC K) (kC K)) := ⟨_, fd22, He.meth_ok (c.fact 75 (f := .meth "Setting" "twice") rfl), ok_stwice (fun_of D22) TS Z, b22⟩
  have EQS : OwQ.EqC P w K mg base 2 (sC K) (spSEqA K (sC K) (kC K)) := ⟨⟨_, fd23, _, ok_seqA (fun_of D23) TS T Z EQ nkC, He.eqO_ok n6, n7, b23⟩, He.eqO_ok n8, n4⟩
  have cks : Cee P w K mg base 1 "check_setting" ["setting"] (spCheckSet (sC K) (kC K)) := ⟨_, fd24, ok_checkSet (fun_of D24) TS Z, g24, k24, b24⟩
  have LC : LogC P w K mg base (sC K) (kC K) := ⟨cks, skn, sde, stw, kwo, kpu⟩
  have isl : Cee P w K mg base 2 "is_log" ["setting", "value"] (spIsLog (sC K) (kC K)) := ⟨_, fd25, ok_isLog (fun_of D25) TS Z LC, g25, k25, b25⟩
  have ckl : Cee P w K mg base 3 "check_log" ["setting", "log"] (spCheckLog (sC K) (kC K)) := ⟨_, fd26, ok_checkLog (fun_of D26) isl, g26, k26, b26⟩
  have kod : Cee P w K mg base 2 "kinds_of_deeds" ["setting", "log"] (spKods (sC K) (kC K)) := ⟨_, fd27, ok_kods (fun_of D27) TS LC, g27, k27, b27⟩
  have KO : KofC P w K mg base (sC K) (kC K) := ⟨ckl, kod⟩
  have kof_ : Cee P w K mg base 6 "kind_of" ["setting", "log"] (spKindOf (sC K) (kC K)) := ⟨_, fd28, ok_kindOf (fun_of D28) TS B LC KO pal, g28, k28, b28⟩
  have opp : Cee P w K mg base 6 "opposite" ["kinds"] (spOpp (kC K)) := ⟨_, fd29, ok_opp (fun_of D29) T PC NK, g29, k29, b29⟩
  have ops : Cee P w K mg base 9 "opposite_setting" ["setting"] (spOppSet (sC K) (kC K)) := ⟨_, fd30, ok_oppSet (fun_of D30) TS LC NS opp, g30, k30, b30⟩
  have twl : Cee P w K mg base 4 "check_two_logs" ["setting", "one", "other"] (sp2L (sC K) (kC K)) := ⟨_, fd31, ok_twoL (fun_of D31) cks ckl, g31, k31, b31⟩
  have stk : Cee P w K mg base 2 "stretch_kinds" ["kinds", "row"] (spStretch (kC K)) := ⟨_, fd32, ok_stretch (fun_of D32) T B kta, g32, k32, b32⟩
  have tws : Cee P w K mg base 3 "_twice_stretches" ["setting", "log"] (spTwS (sC K) (kC K)) := ⟨_, fd33, ok_twS (fun_of D33) TS stw skn kod stk, g33, k33, b33⟩
  have dif : Cee P w K mg base 1 "_different" ["logs"] spDiff := ⟨_, fd34, ok_diff (fun_of D34) Z, g34, k34, b34⟩
  have dbls : Cee P w K mg base 4 "doublings" ["setting", "log"] (spDbls (sC K) (kC K)) := ⟨_, fd35, ok_dbls (fun_of D35) cks ckl dif tws, g35, k35, b35⟩
  have dblK : Kee P w K mg base 4 "doublings" ["setting", "log"] (spDbls (sC K) (kC K)) ["log", "setting"] (revG) := ⟨_, fd35, _, ok_dbls (fun_of D35) cks ckl dif tws, g35, k35, kbindsN (ps := ["setting", "log"]) D35 0 ["log", "setting"] (revG) (revG) (revG_rel) (fun _ _ _ _ _ _ us ws h1 h2 => match us, ws, h1, h2 with | [], [_, _], _, _ => rfl)⟩
  have half : Cee P w K mg base 4 "_halved" ["setting", "log"] (spHalf (sC K) (kC K)) := ⟨_, fd36, ok_half (fun_of D36) tws, g36, k36, b36⟩
  have hvs : Cee P w K mg base 5 "halvings" ["setting", "log"] (spHvs (sC K) (kC K)) := ⟨_, fd37, ok_hvs (fun_of D37) cks ckl dif half, g37, k37, b37⟩
  have hvsK : Kee P w K mg base 5 "halvings" ["setting", "log"] (spHvs (sC K) (kC K)) ["log", "setting"] (revG) := ⟨_, fd37, _, ok_hvs (fun_of D37) cks ckl dif half, g37, k37, kbindsN (ps := ["setting", "log"]) D37 0 ["log", "setting"] (revG) (revG) (revG_rel) (fun _ _ _ _ _ _ us ws h1 h2 => match us, ws, h1, h2 with | [], [_, _], _, _ => rfl)⟩
  have idb : Cee P w K mg base 7 "is_doubling" ["setting", "one", "other"] (spIsDb (sC K) (kC K)) := ⟨_, fd38, ok_isDb (fun_of D38) TS B twl stw kof_, g38, k38, b38⟩
  have idbK : Kee P w K mg base 7 "is_doubling" ["setting", "one", "other"] (spIsDb (sC K) (kC K)) ["other", "one", "setting"] (revG) := ⟨_, fd38, _, ok_isDb (fun_of D38) TS B twl stw kof_, g38, k38, kbindsN (ps := ["setting", "one", "other"]) D38 0 ["other", "one", "setting"] (revG) (revG) (revG_rel) (fun _ _ _ _ _ _ us ws h1 h2 => match us, ws, h1, h2 with | [], [_, _, _], _, _ => rfl)⟩
  have pu0 : Cee P w K mg base 1 "_law_purse" ["_law_script", "_law_at"] (spPurse K) := ⟨_, fd39, ok_purse (fun_of D39) B, g39, k39, b39⟩
  have mi : Cee P w K mg base 1 "_law_mixed" ["_law_seed", "_law_spin", "_law_at"] spMixed := ⟨_, fd40, ok_mixed (fun_of D40) B, g40, k40, b40⟩
  have dr : Cee P w K mg base 2 "_law_draw" ["_law_purse_here", "_law_many"] spDraw := ⟨_, fd41, ok_draw (fun_of D41) B mi, g41, k41, b41⟩
  have pus : Cee P w K mg base 2 "_law_purses" ["_law_script", "_law_few"] (spPurses K) := ⟨_, fd42, ok_purses (fun_of D42) B pu0, g42, k42, b42⟩
  have one : Cee P w K mg base 3 "_law_one_of" ["_law_purse_here", "_law_some"] spOneOf := ⟨_, fd43, ok_oneof (fun_of D43) B dr, g43, k43, b43⟩
  have exa : Cee P w K mg base 7 "_law_exact" ["_law_mine", "_law_theirs"] (spExact 6) := ⟨_, fd44, ok_exact (fun_of D44) B Z hz g44 k44 b44 6, g44, k44, b44⟩
  have wo : Cee P w K mg base 3 "_law_word" ["_law_purse_here"] spWord := ⟨_, fd45, ok_word (fun_of D45) B dr, g45, k45, b45⟩
  have wos : Cee P w K mg base 4 "_law_words" ["_law_purse_here", "_law_many"] spWords := ⟨_, fd46, ok_words (fun_of D46) B Z.list dr wo, g46, k46, b46⟩
  have tpl : Cee P w K mg base 1 "_law_plain_table" ["_law_way", "_law_many"] spPlain := ⟨_, fd47, ok_plain (fun_of D47) B, g47, k47, b47⟩
  have twi : Cee P w K mg base 1 "_law_wide_table" ["_law_told", "_law_many", "_law_way"] spWide := ⟨_, fd48, ok_wide (fun_of D48) B Z.dict, g48, k48, b48⟩
  have ttw : Cee P w K mg base 1 "_law_twofold_table" ["_law_one", "_law_other"] spTwo := ⟨_, fd49, ok_two (fun_of D49) B, g49, k49, b49⟩
  have ttn : Cee P w K mg base 1 "_law_twin_table" ["_law_told", "_law_many", "_law_twin"] spTwin := ⟨_, fd50, ok_twin (fun_of D50) B Z.list, g50, k50, b50⟩
  have tle : Cee P w K mg base 1 "_law_leading_table" ["_law_told", "_law_many"] spLead := ⟨_, fd51, ok_lead (fun_of D51) B Z.dict, g51, k51, b51⟩
  have tcy : Cee P w K mg base 1 "_law_cyclic_table" ["_law_many", "_law_lead"] spCyc := ⟨_, fd52, ok_cyc (fun_of D52) B, g52, k52, b52⟩
  have tan : Cee P w K mg base 3 "_law_any_table" ["_law_purse_here", "_law_many"] spAnyT := ⟨_, fd53, ok_anyT (fun_of D53) B han dr tcy, g53, k53, b53⟩
  have tab : Cee P w K mg base 5 "_law_table" ["_law_purse_here", "_law_most"] spTable := ⟨_, fd54, ok_table (fun_of D54) B Z.dict Z.sorted ⟨dr, tpl, twi, ttw, ttn, tle, tan, wos⟩, g54, k54, b54⟩
  have kof : Cee P w K mg base 1 "_law_kinds_of" ["_law_table_here"] spKindsOf := ⟨_, fd55, ok_kindsOf (fun_of D55) Z, g55, k55, b55⟩
  have sqr : Cee P w K mg base 2 "_law_squares" ["_law_table_here"] spSquares := ⟨_, fd56, ok_squares (fun_of D56) kof, g56, k56, b56⟩
  have sett : Cee P w K mg base 6 "_law_setting" ["_law_purse_here", "_law_most"] spSetting := ⟨_, fd57, ok_setting (fun_of D57) B Z ⟨tab, kof, sqr, wos, dr, one, hen⟩, g57, k57, b57⟩
  have lgg : Cee P w K mg base 4 "_law_log" ["_law_purse_here", "_law_setting_here", "_law_many"] spLog := ⟨_, fd58, ok_log (fun_of D58) B Z dr one, g58, k58, b58⟩
  have knd : Cee P w K mg base 1 "_law_kind" ["_law_setting_here", "_law_log_here"] spKind := ⟨_, fd59, ok_kind (fun_of D59), g59, k59, b59⟩
  have mad : Cee P w K mg base 9 "_law_made" ["_law_setting_here"] (spMade (sC K) (kC K)) := ⟨_, fd60, ok_made (fun_of D60) TS T Z NS NK, g60, k60, b60⟩
  have may : Cee P w K mg base 2 "_law_may_twice" ["_law_setting_here", "_law_log_here"] spMay := ⟨_, fd61, ok_may (fun_of D61) knd, g61, k61, b61⟩
  have db : Cee P w K mg base 3 "_law_doublings" ["_law_setting_here", "_law_log_here"] spDb := ⟨_, fd62, ok_db (fun_of D62) B Z may, g62, k62, b62⟩
  have hv : Cee P w K mg base 3 "_law_halvings" ["_law_setting_here", "_law_log_here"] spHv := ⟨_, fd63, ok_hv (fun_of D63) B Z may, g63, k63, b63⟩
  have clo : Cee P w K mg base 3 "_law_closed" ["_law_setting_here"] spClosed := ⟨_, fd64, ok_closed (fun_of D64) sqr, g64, k64, b64⟩
  have ldb : Cee P w K mg base 3 "_law_is_doubled" ["_law_setting_here", "_law_one", "_law_other"] spLDb := ⟨_, fd65, ok_lDb (fun_of D65) B may, g65, k65, b65⟩
  have lr : Cee P w K mg base 10 "_law_log_right" ["_law_purse_here", "_law_setting_here", "_law_made_here", "_law_log_here"] (spLR (sC K) (kC K)) := ⟨_, fd66, ok_LR (fun_of D66) B Z ⟨db, hv, dbls, hvs, dblK, hvsK, exa, ops, lgg, dr, ldb, idb, idbK⟩, g66, k66, b66⟩
  have gr : Cee P w K mg base 10 "_law_great_right" ["_law_purse_here", "_law_setting_here", "_law_made_here"] (spGR (sC K) (kC K)) := ⟨_, fd67, ok_GR (fun_of D67) B Z ⟨dr, lgg, one, exa, ldb, idb⟩, g67, k67, b67⟩
  have fr : Cee P w K mg base 10 "_law_fixed_right" [] spFR := ⟨_, fd68, ok_FR (fun_of D68) B Z ⟨mad, exa, idb, hvs, dbls⟩, g68, k68, b68⟩
  exact ok_law (fun_of D69) B Z ⟨fr, pus, sett, clo, mad, dr, lgg, lr, gr⟩
end KT
open PySem PySem.W PySem.Calls PyProof.Rows
set_option maxRecDepth 100000 in
set_option maxHeartbeats 0 in
theorem PySem.Challenge.cw_kindtwice_k19_whole_doublings_and_halvin_holds : PySem.Challenge.rw_kindtwice_k19_whole_doublings_and_halvin.Holds := by
  w_on; o_law
  refine HandSHeadRun.head_any (r := OpenLaw.row PySem.Challenge.rw_kindtwice_k19_whole_doublings_and_halvin) (q := view (OpenLaw.row PySem.Challenge.rw_kindtwice_k19_whole_doublings_and_halvin).prog [79]) (H := KT.hk) (ob := KT.ob) (M := 60000) (loose := KT.loose) (d := HandSHeadRun.topDef (OpenLaw.row PySem.Challenge.rw_kindtwice_k19_whole_doublings_and_halvin).prog 79) (kwd := []) KT.ob_eq
    (by kernel_rfl) (fun s => by kernel_rfl) KT.run (by kernel_rfl) (by kernel_rfl) (by kernel_rfl) (by rfl) (by first | assumption | decide +kernel) (by decide +kernel) ⟨rfl, rfl, rfl, rfl, rfl, by decide +kernel⟩ ?hw ?hc
  case hw => w_witness2
  case hc =>
    refine L2.walk_ofE (l := PySem.Challenge.rw_kindtwice_k19_whole_doublings_and_halvin) (n := 63) (k := 12) (x := "_law_script") (CX := L2.CX0) rfl (by decide) (by kernel_rfl) ⟨rfl, by decide, by decide⟩ ?F (fun _ _ _ _ z => z)
    intro w mg fa h Y G hmg0
    obtain ⟨K, KX, c, m⟩ := Y
    have hmg : mg ("law" : PySem.Str) = some (.ref fa) := by
      have e : (HandSHeadRun.topDef (OpenLaw.row PySem.Challenge.rw_kindtwice_k19_whole_doublings_and_halvin).prog 79).name = ("law" : PySem.Str) := by kernel_rfl
      rw [← e]
      exact hmg0
    obtain ⟨fd, hb, hF⟩ := KT.facts (P := (PySem.Challenge.rw_kindtwice_k19_whole_doublings_and_halvin).prog) (w := w) KX G hmg c m
    exact ⟨K, fd, KT.spLaw K, KX, hb, fun H a ns hl _ hS => ⟨a, ns, rfl, hS, hl, fun _ => rfl⟩, hF⟩
#print axioms PySem.Challenge.cw_kindtwice_k19_whole_doublings_and_halvin_holds
