import PyProof.Rows.All
import Wide.All
import OpenK.AllK
import Wide.FinOn
import KE.KStateDown
import HandS.Head0
import HandS.Head1
import HandS.Head2
import HandS.HeadEnd
import HandS.HeadHook1
import HandS.HeadHook2
import HandS.ExcInit
import HandS.HeadHook4
import HandS.HeadWalk
import HandS.EndTab
import HandS.ForMost
import HandS.Lambda
import HandS.Nested
import KE.KMinKey
import HandS.DictComp
import HandS.SetBool
import HandS.Walk
import HandS.OwnEq
import HandS.IsInst
import HandS.Defaults
import HandS.MakeKwOnly
import PyProof.InstEq
import HandS.Style
import HandS.DictTup
import HandS.TupLen
import HandS.Conv
import KE.KDictPairs
import KE.KDictZip
import KE.KDictCopyH
import KE.KDictDisplayH
import KE.SortData
import KE.KEqDict
import HandS.Set
import PyProof.Rows.SortShellAny
import PyProof.StrBlock2
import PyProof.ListStr
import KE.KMulAny
import HandS.Wide
import HandS.WideBits
import HandS.More
import HandS.Text
import HandS.Zip
import HandS.SetFor
import HandS.ListItems
import KE.KDictList
import HandS.Finally
import HandS.RevRange
import KE.KDictWalk
import HandS.Evl
import HandS.Deep
import PySem.Challenge.RW_kindtwice_k10_whole_sure_stretches
set_option Elab.async false
set_option maxRecDepth 100000
namespace KT
open PySem L2 PyProof.Rows
def top (i : Nat) : Stmt := PySem.Challenge.pw_kindtwice_k10_whole_sure_stretches.main.body.getD i (.Pass ⟨0, 0, 0, 0⟩)
abbrev sPurse : Stmt := top 34
abbrev sMixed : Stmt := top 35
abbrev sDraw : Stmt := top 36
abbrev sPurses : Stmt := top 37
abbrev sWord : Stmt := top 40
abbrev sShuffled : Stmt := top 38
abbrev sExact : Stmt := top 39
abbrev sWords : Stmt := top 41
abbrev sPlain : Stmt := top 42
abbrev sWide : Stmt := top 43
abbrev sTwofold : Stmt := top 44
abbrev sTwin : Stmt := top 49
abbrev sLeading : Stmt := top 50
abbrev sCyclic : Stmt := top 51
abbrev sAny : Stmt := top 52
abbrev sTable : Stmt := top 45
abbrev pIsWord : Stmt := top 9
abbrev pIsCount : Stmt := top 10
abbrev pCheckCount : Stmt := top 11
abbrev pIsTable : Stmt := top 14
abbrev pIsPair : Stmt := top 15
abbrev pIsFull : Stmt := top 16
abbrev pIsFree : Stmt := top 17
abbrev pIsKind : Stmt := top 18
abbrev pIsKinds : Stmt := top 19
abbrev pCheckKinds : Stmt := top 20
abbrev pCheckKind : Stmt := top 21
abbrev pOwnSquares : Stmt := top 22
abbrev kInit : Stmt := inClass (top 13) 0
abbrev kTable : Stmt := inClass (top 13) 1
abbrev kWords : Stmt := inClass (top 13) 2
abbrev kPut : Stmt := inClass (top 13) 3
abbrev kEq : Stmt := inClass (top 13) 4
abbrev sKindsOf : Stmt := top 46
abbrev sSquares : Stmt := top 47
abbrev sMadeKinds : Stmt := top 48
abbrev pStretch : Stmt := top 24
abbrev sLp : Stmt := top 27
abbrev sAlr : Stmt := top 25
abbrev sLbk : Stmt := top 28
abbrev sMost : Stmt := top 29
abbrev sScarce : Stmt := top 31
abbrev sSure : Stmt := top 30
abbrev sIsSc : Stmt := top 32
abbrev sTog : Stmt := top 53
abbrev sMoL : Stmt := top 54
abbrev sRwL : Stmt := top 55
abbrev sNR : Stmt := top 56
abbrev sLawF : Stmt := top 57
end KT
set_option Elab.async false
set_option linter.all false
set_option maxRecDepth 100000
set_option maxHeartbeats 0
namespace KT
open PySem PySem.Spec PyProof.Rows L2
def kC (K : PySem.W.Frag) : Addr := He.ga K "Kinds"
def oneB (K : PySem.W.Frag) (x : Str) : Bool :=
  He.eqO (PySem.W.findIn K (.ref (He.ga K x)) "__class__") (some (some (.builtin "object.__class__"))) && (decide (PySem.W.mroIn K (He.ga K x) (.type "object") = some true) && (decide (PySem.W.kitOne K (.ref (He.ga K x)) (.ref (He.ga K x)) = some true) &&
  (He.eqO (PySem.W.findIn K (.ref (He.ga K x)) "__eq__") (some (some (.ref (He.fAd K (x, some "__eq__"))))) && (PySem.W.isFn K (.ref (He.fAd K (x, some "__eq__"))) && (He.eqO (PySem.W.findIn K (.ref (He.ga K x)) "__ne__") (some (some (.builtin "object.__ne__"))) &&
  PySem.W.notFirst K (He.ga K x) (.ref (He.ga K x)))))))
def myB (K : PySem.W.Frag) : Bool :=
  He.eqO (PySem.W.specialIn K (.builtin "object.__class__") "__get__") (some (some (.builtin "getset_descriptor.__get__"))) && (decide (PySem.W.takesIn K (.builtin "object.__class__") = some true) && oneB K "Kinds")
abbrev AlX : Type := He.AlD × Bool
def tf : List He.Defn := [("scarce_row", none)]
def frX (g : Addr → Option Obj) : PySem.W.Frag := He.frT g (List.range 1500)
def obsX (fa : List He.Fa) (fn : List He.DefD) (g : Addr → Option Obj) : AlX := (He.obsD fa fn (frX g), myB (frX g) && He.tabsB g tf (frX g))
/-- the defs' tables: empty, not in K -/
structure TabsX (K : PySem.W.Frag) (h : Heap) : Prop where
  hd : ∀ p ∈ tf, PySem.W.codeHdIn K (He.cT K p).1 (He.cT K p).2 = true
  out : ∀ p ∈ tf, K.lookup (He.cT K p).2 = none
  empty : ∀ p ∈ tf, h.get? (He.cT K p).2 = some { cls := .none, data := .fields #[] }
theorem tabsX_of {h : Heap} {as : List Addr} (e : He.tabsB h.get? tf (He.frT h.get? as) = true) : TabsX (He.frT h.get? as) h := by
  have key : ∀ p ∈ tf, PySem.W.codeHdIn (He.frT h.get? as) (He.cT (He.frT h.get? as) p).1 (He.cT (He.frT h.get? as) p).2 = true ∧ ∃ o, h.get? (He.cT (He.frT h.get? as) p).2 = some o ∧ He.emptyTab o = true := fun p hp => by
    obtain ⟨h3, h4⟩ := He.ba (List.all_eq_true.mp e p hp)
    refine ⟨h3, ?_⟩
    cases q : h.get? (He.cT (He.frT h.get? as) p).2 with
    | none =>
      rw [q] at h4
      cases h4
    | some o =>
      rw [q] at h4
      exact ⟨o, rfl, h4⟩
  exact ⟨fun p hp => (key p hp).1, fun p hp => by
    obtain ⟨_, o, q, z⟩ := key p hp
    exact He.frT_none q z, fun p hp => by
    obtain ⟨_, o, q, z⟩ := key p hp
    rw [q, He.emptyTab_eq z]⟩
def hookX (fa : List He.Fa) (fn : List He.DefD) : PySem.W.Hook where
  α := AlX
  obs := fun s => obsX fa fn s.heap.get?
  val := fun _ => (He.valD fn, true)
  says := fun _ h => ∃ K : PySem.W.Frag, K.In h ∧ He.SaysD fa fn K ∧ myB K = true ∧ TabsX K h
  of := fun _ _ e => ⟨_, He.frT_in, congrArg Prod.fst e, (He.ba (congrArg Prod.snd e)).1, tabsX_of (He.ba (congrArg Prod.snd e)).2⟩
  keeps := fun _ _ _ ⟨K, hK, c, m, t⟩ k => ⟨K, PySem.W.Frag.In.keeps hK k, c, m, t.hd, t.out, fun p hp => k _ _ (t.empty p hp)⟩
theorem obsX_eq {fa : List He.Fa} {fn : List He.DefD} {g : Addr → Option Obj} {s : Shared} (h : ∀ a, g a = s.heap.get? a) : obsX fa fn g = (hookX fa fn).obs s := by
  have e : g = s.heap.get? := funext h
  rw [e] <;> rfl
end KT
set_option Elab.async false
set_option linter.all false
set_option maxRecDepth 100000
set_option maxHeartbeats 0
namespace KT
open PySem PySem.Spec PyProof.Rows L2
def lawD (x : Str) (st : Stmt) : He.DefD := ⟨(x, none), x, x, defArgs st, defBody st, defScope st, [], []⟩
def mthD (cls m qual : Str) (st : Stmt) : He.DefD := ⟨(cls, some m), m, qual, defArgs st, defBody st, defScope st, [], []⟩
def fn1 : List He.DefD := [lawD "is_word" pIsWord,
  lawD "is_count" pIsCount,
  lawD "check_count" pCheckCount,
  lawD "_is_pair" pIsPair,
  lawD "_is_full" pIsFull,
  lawD "_is_free_of_brackets" pIsFree,
  lawD "_is_table" pIsTable,
  mthD "Kinds" "__init__" "Kinds.__init__" kInit,
  mthD "Kinds" "table" "Kinds.table" kTable,
  mthD "Kinds" "words" "Kinds.words" kWords,
  lawD "is_kind" pIsKind,
  lawD "check_kind" pCheckKind,
  lawD "check_kinds" pCheckKinds,
  mthD "Kinds" "put" "Kinds.put" kPut,
  mthD "Kinds" "__eq__" "Kinds.__eq__" kEq,
  lawD "is_list_of_kinds" pIsKinds,
  lawD "own_squares" pOwnSquares,
  lawD "stretch_kinds" pStretch,
  lawD "all_rows" sAlr,
  lawD "_longest_points" sLp,
  lawD "_longest_by_kind" sLbk,
  lawD "_most_in" sMost,
  lawD "scarce_row" sScarce,
  lawD "sure_stretches" sSure,
  lawD "is_scarce_row" sIsSc,
  lawD "_law_purse" sPurse,
  lawD "_law_mixed" sMixed,
  lawD "_law_draw" sDraw,
  lawD "_law_purses" sPurses,
  lawD "_law_shuffled" sShuffled,
  lawD "_law_exact" sExact,
  lawD "_law_word" sWord,
  lawD "_law_words" sWords]
def fn2 : List He.DefD := [lawD "_law_plain_table" sPlain,
  lawD "_law_wide_table" sWide,
  lawD "_law_twofold_table" sTwofold,
  lawD "_law_twin_table" sTwin,
  lawD "_law_leading_table" sLeading,
  lawD "_law_cyclic_table" sCyclic,
  lawD "_law_any_table" sAny,
  lawD "_law_table" sTable,
  lawD "_law_kinds_of" sKindsOf,
  lawD "_law_squares" sSquares,
  lawD "_law_made_kinds" sMadeKinds,
  lawD "_law_together" sTog,
  lawD "_law_most" sMoL,
  lawD "_law_rows" sRwL,
  lawD "_law_number_right" sNR,
  lawD "law" sLawF]
def fn : List He.DefD := fn1 ++ fn2
def fa0 : List He.Fa := [.glo "is_word", .glo "is_count", .glo "check_count", .glo "_is_pair", .glo "_is_full", .glo "_is_free_of_brackets", .glo "_is_table", .glo "is_kind", .glo "check_kind", .glo "check_kinds", .glo "is_list_of_kinds", .glo "own_squares", .glo "stretch_kinds", .glo "all_rows", .glo "_longest_points", .glo "_longest_by_kind", .glo "_most_in", .glo "scarce_row", .glo "sure_stretches", .glo "is_scarce_row", .glo "_law_purse", .glo "_law_mixed", .glo "_law_draw", .glo "_law_purses", .glo "_law_shuffled", .glo "_law_exact", .glo "_law_word", .glo "_law_words", .glo "_law_plain_table", .glo "_law_wide_table"]
def fa1 : List He.Fa := [.glo "_law_twofold_table", .glo "_law_twin_table", .glo "_law_leading_table", .glo "_law_cyclic_table", .glo "_law_any_table", .glo "_law_table", .glo "_law_kinds_of", .glo "_law_squares", .glo "_law_made_kinds", .glo "_law_together", .glo "_law_most", .glo "_law_rows", .glo "_law_number_right", .glo "law", .glo "Kinds", .cls "Kinds", .noat "Kinds" "_table", .noat "Kinds" "_words", .meth "Kinds" "table", .meth "Kinds" "words", .meth "Kinds" "put", .mkr "Kinds", .str "LETTERS" "abcdefghijklmnopqrstuvwxyz", .int "LONGEST_WORD" 8, .free "int", .free "max", .free "min", .free "sum", .free "len", .free "range"]
def fa2 : List He.Fa := [.free "isinstance", .free "all", .free "sorted", .free "str", .free "bool", .free "tuple", .free "list", .free "dict", .free "zip", .free "any", .free "set", .free "reversed", .free "enumerate"]
def fa : List He.Fa := fa0 ++ fa1 ++ fa2
abbrev R : PySem.W.OpenRow := PySem.W.OpenLaw.row PySem.Challenge.rw_kindtwice_k10_whole_sure_stretches
abbrev hk : PySem.W.Hook := hookX fa fn
def ob (s : PySem.W.SharedT) : AlX := obsX fa fn (HandSHeadRun.getT s)
theorem ob_eq (s : PySem.W.SharedT) : ob s = hk.obs s.abs := obsX_eq (HandSHeadRun.getT_eq s)
def loose0 : List Str := ["TwiceError", "InvalidTable", "InvalidKind", "InvalidKinds", "InvalidCount", "LETTERS", "LONGEST_WORD", "is_word", "is_count", "check_count", "Kinds", "_is_table", "_is_pair", "_is_full", "_is_free_of_brackets", "is_kind"]
def loose1 : List Str := ["is_list_of_kinds", "check_kinds", "check_kind", "own_squares", "stretch_kinds", "all_rows", "_longest_points", "_longest_by_kind", "_most_in", "sure_stretches", "scarce_row", "is_scarce_row", "_law_purse", "_law_mixed", "_law_draw", "_law_purses"]
def loose2 : List Str := ["_law_shuffled", "_law_exact", "_law_word", "_law_words", "_law_plain_table", "_law_wide_table", "_law_twofold_table", "_law_table", "_law_kinds_of", "_law_squares", "_law_made_kinds", "_law_twin_table", "_law_leading_table", "_law_cyclic_table", "_law_any_table", "_law_together"]
def loose3 : List Str := ["_law_most", "_law_rows", "_law_number_right"]
abbrev loose : List Str := loose0 ++ loose1 ++ loose2 ++ loose3
theorem run (w : World) : HandSHeadRun.RunEq R (PySem.W.view R.prog [57]) hk ob 60000 loose w := by
  intro os
  kernel_rfl
end KT
set_option Elab.async false
set_option linter.all false
set_option maxRecDepth 100000
set_option maxHeartbeats 2000000
set_option pp.maxSteps 900
namespace MnK
open PySem PySem.Spec PyProof.Rows L2 LamX
def ButA (a : Addr) (h h' : Heap) : Prop := ∀ b o, b ≠ a → h.get? b = some o → h'.get? b = some o
section
variable {X : Cx} {pins : List (Addr × Obj)} {σ : L2.St} {H0 : Hp} {s0 : Shared}
theorem gone {h : Heap} {a : Addr} (e : h.objs.size ≤ a) : h.get? a = none := Heap.get?_none_of_le e
theorem un_but {fs : List Addr} {H H' : Hp} {h0 h h' : Heap} {a : Addr} (u : Un fs [] H H' h0 h) (n : h0.get? a = none) (k : ButA a h h') : Un fs [] H H' h0 h' := by
  have ne : ∀ {b o}, h0.get? b = some o → b ≠ a := fun e z => by rw [z, n] at e; cases e
  refine ⟨fun b o e hn hb hx => k _ _ (ne e) (u.keep b o e hn hb hx), fun b o e hn hb hx => ?_, u.free, fun b o e hx => ?_, u.tups, u.frzs, u.tbls⟩
  · obtain ⟨sl, q⟩ := u.slot b o e hn hb hx
    exact ⟨sl, k _ _ (ne e) q⟩
  · obtain ⟨o', q⟩ := u.there b o e hx
    exact ⟨o', k _ _ (ne e) q⟩
theorem hok_but {P : Program} {w : World} {H : Hp} {h h' : Heap} {a : Addr} (x : HOk P w H h) (n : H a = none) (k : ButA a h h') : HOk P w H h' := fun b u e =>
  (x b u e).stay (fun c v hc r => k c v (fun z => by
    rcases hc with rfl | hc
    · rw [z, n] at e; cases e
    · rw [z, n] at hc; cases hc) r) (fun _ r => r) fun _ _ r => r
/-- where a run of the loop stands: all as it was at s0, but for what is new -/
structure Std (X : Cx) (H0 : Hp) (s0 : Shared) (S J l : Addr) (H : Hp) (s : Shared) : Prop where
  os : s.os = s0.os
  bare : AllBare s.gens
  un : Un (frs X.stack) [] H0 H s0.heap s.heap
  hok : HOk X.prog X.w H s.heap
  same : L2.Same H0 H
  nS : H S = none
  nJ : H J = none
theorem Std.inv {S J l : Addr} {H : Hp} {s : Shared} (I : Inv X pins σ H0 s0) (t : Std X H0 s0 S J l H s) : Inv X pins σ H s := by
  obtain ⟨hh, g, d, tk, os'⟩ := s
  obtain rfl : os' = s0.os := t.os
  exact I.call (h' := hh) (g' := g) (d' := d) (t' := tk) (ch := []) t.un t.hok t.bare fun b z => absurd z (by simp)
theorem Std.but {S J l a : Addr} {H : Hp} {s : Shared} {h' : Heap} {tk : Nat} (t : Std X H0 s0 S J l H s) (n0 : s0.heap.get? a = none) (n : H a = none) (k : ButA a s.heap h') : Std X H0 s0 S J l H { s with heap := h', toks := tk } :=
  ⟨t.os, t.bare, un_but t.un n0 k, hok_but t.hok n k, t.same, t.nS, t.nJ⟩
theorem Std.call {S J l : Addr} {H : Hp} {s s' : Shared} {Q : VK} {u : Value} (t : Std X H0 s0 S J l H s) (hS : ∃ o, s.heap.get? S = some o) (hJ : ∃ o, s.heap.get? J = some o) (e : CE X.stack X.prog X.w H s (fun v H' => Q v H' ∧ L2.Same H H') u s') :
    ∃ v H', Std X H0 s0 S J l H' s' ∧ Un (frs X.stack) [] H H' s.heap s'.heap ∧ RelV v u ∧ Q v H' := by
  obtain ⟨v, H', os, bare, un, hok, r, q, sm⟩ := e
  obtain ⟨oS, eS⟩ := hS
  obtain ⟨oJ, eJ⟩ := hJ
  exact ⟨v, H', ⟨os.trans t.os, bare, t.un.trans un, hok, t.same.trans sm, un.free _ _ eS t.nS (by simp), un.free _ _ eJ t.nJ (by simp)⟩, un, r, q⟩
/-- an address that is new at s0 is no frame's -/
theorem noframe (I : Inv X pins σ H0 s0) {a : Addr} (h : s0.heap.objs.size ≤ a) : a ∉ frs X.stack := fun z => by
  rcases List.mem_cons.mp (I.stkSub _ z) with e | e
  · have h1 := I.lt
    rw [← e] at h1
    exact Nat.lt_irrefl _ (Nat.lt_of_lt_of_le h1 h)
  · exact I.nofs h e
/-- what the key function promises: of the j-th item the number kf j -/
def KeyOk (X : Cx) (pins : List (Addr × Obj)) (σ : L2.St) (H0 : Hp) (f : Addr) (ob : Obj) (xs : List V) (kf : Nat → Int) : Prop :=
  ∀ (j : Nat) (x : V) (v : Value) (H : Hp) (s : Shared), Inv X pins σ H s → L2.Same H0 H → s.heap.get? f = some ob → xs[j]? = some x → RelV x v →
    codeAny (model X.prog X.w) X.A.in1 (.call (.ref f) ⟨[v], []⟩) (CR CX0 X.stack X.prog X.w H s (fun y H' => y = .int (kf j) ∧ L2.Same H H') E0) s
variable {S J l f : Addr} {ob : Obj} {xs : List V} {kf : Nat → Int} {R : Result → Shared → Prop} {dk : List (Str × Value)}
/-- one turn: the next item's number -/
theorem turn_ok (I : Inv X pins σ H0 s0) (kO : KeyOk X pins σ H0 f ob xs kf) (hf : s0.heap.get? f = some ob) (hfn : H0 f = none) (hfr : f ∉ frs X.stack) {j : Nat} {x : V} {v : Value} {H : Hp} {s : Shared} {oS oJ : Obj} (t : Std X H0 s0 S J l H s)
    (fS : s0.heap.objs.size ≤ S) (fJ : s0.heap.objs.size ≤ J) (hS : s.heap.get? S = some oS) (hJ : s.heap.get? J = some oJ) (hx : xs[j]? = some x) (r : RelV x v) {Q : Value → Shared → Prop} {E : Value → Shared → Prop}
    (q : ∀ H' s' tk, Std X H0 s0 S J l H' s' → s'.heap.get? S = some oS → s'.heap.get? J = some oJ → Q (.int (kf j) tk) s') : wpAny (model X.prog X.w) X.A.in1 (call (.ref f) [v]) Q E s := by
  have fo : s.heap.get? f = some ob := t.un.keep f _ hf hfn hfr (by simp)
  refine wpAny_call (codeAny_mono (kO j x v H s (t.inv I) t.same fo hx r) fun res s' h => ?_)
  cases res with
  | error e => exact (show False from h).elim
  | ok fl =>
    cases fl with
    | ret u =>
      obtain ⟨y, H', t', un, ry, e⟩ := t.call (Q := fun y _ => y = .int (kf j)) ⟨_, hS⟩ ⟨_, hJ⟩ h
      subst e
      obtain ⟨tk, e⟩ : ∃ tk, u = Value.int (kf j) tk := ry
      subst e
      exact q H' s' tk t' (un.keep _ _ hS t.nS (noframe I fS) (by simp)) (un.keep _ _ hJ t.nJ (noframe I fJ) (by simp))
    | next => exact False.elim h
    | brk => exact False.elim h
    | cont => exact False.elim h
end
end MnK
set_option Elab.async false
set_option linter.all false
set_option maxRecDepth 100000
set_option maxHeartbeats 2000000
set_option pp.maxSteps 900
namespace MnK
open PySem PySem.Spec PyProof.Rows L2 LamX
def BestMin (kf : Nat → Int) (i n : Nat) : Prop := ∀ j, j < n → kf i ≤ kf j ∧ (j < i → kf i < kf j)
theorem name_min : (toString "min" ++ toString ".loop" : String) = "min.loop" := by decide
section
variable {X : Cx} {pins : List (Addr × Obj)} {σ : L2.St} {H0 : Hp} {s0 : Shared} {S J l f : Addr} {ob : Obj} {xs : List V} {kf : Nat → Int} {R : Result → Shared → Prop} {dk : List (Str × Value)}
theorem loop_min (I : Inv X pins σ H0 s0) (hc : X.calm = true) (kO : KeyOk X pins σ H0 f ob xs kf) (hf : s0.heap.get? f = some ob) (hfn : H0 f = none) (hfr : f ∉ frs X.stack) (hl : SqL X.K H0 l xs) (ll : l < s0.heap.objs.size) (fS : s0.heap.objs.size ≤ S) (fJ : s0.heap.objs.size ≤ J) (nSJ : S ≠ J)
    (hR : ∀ i x v H s, xs[i]? = some x → RelV x v → BestMin kf i xs.length → Std X H0 s0 S J l H s → R (.ok (.ret v)) s) :
    ∀ (r j i : Nat) (x : V) (vb : Value) (tb : Tok) (c : Nat) (H : Hp) (s : Shared), xs.length - (j + 1) = r → j + 1 ≤ xs.length → Std X H0 s0 S J l H s → s.heap.get? S = some (seqObj "list" #[vb, .int (kf i) tb] c) → s.heap.IsListIter J l (j + 1) → xs[i]? = some x → RelV x vb → i ≤ j → BestMin kf i (j + 1) →
      codeAny (model X.prog X.w) X.A (.builtin "min.loop" ⟨[.ref J, .ref f, .ref S], dk⟩) R s := by
  have nJ0 := gone (h := s0.heap) fJ
  have nS0 := gone (h := s0.heap) fS
  have nlJ : l ≠ J := Nat.ne_of_lt (Nat.lt_of_lt_of_le ll fJ)
  intro r
  induction r with
  | zero =>
    intro j i x vb tb c H s hr hj t hS hit hx rx hij best
    have hin : xs.length = j + 1 := by omega
    obtain ⟨its, rv, pl, hz⟩ := (t.inv I).list (t.same.seq hl)
    have W := Walks.list (prog := X.prog) (w := X.w) (A := X.A.in1) (I.ok.hd hc) J l nlJ its.toArray
    have hsz : its.toArray.size = xs.length := by rw [List.size_toArray, ← rv.length]
    refine codeAny_builtin PySem.F.entry_min_loop ?_
    rw [Around.under_plainId PySem.F.plain_min_loop _]
    show wpAny _ X.A.in1 (seqItems? (.ref S) >>= _) _ _ _
    refine wpAny_bind (wpAny_seqItems hS rfl ?_)
    show wpAny _ X.A.in1 (tryCatch (pyNext (.ref J)) _ >>= _) _ _ _
    refine wpAny_bind (wpAny_tryCatch (W.done _ _ _ ⟨by rw [hsz, hin]; exact hit, pl.isList⟩ fun h' tk' hk' => ?_))
    have kJ : ButA J s.heap h' := fun b o n e => hk' b o (by simpa using n) e
    have t1 := t.but (tk := tk') nJ0 t.nJ kJ
    have hS1 := kJ S _ nSJ hS
    show wpAny _ X.A.in1 (updateSeq S (fun _ => #[]) >>= _) _ _ _
    refine wpAny_bind (wpAny_updateSeq hS1 rfl (wpAny_bind (wpAny_letGo (wpAny_pure ?_))))
    have sb := Heap.SameBut.update h' S (Obj.mapSeq fun _ => (#[] : Array Value))
    exact hR i x vb H _ hx rx (by rw [hin]; exact best) (t1.but (tk := tk') nS0 t1.nS fun b o n e => (sb.2 b n).trans e)
  | succ r ih =>
    intro j i x vb tb c H s hr hj t hS hit hx rx hij best
    have hlt : j + 1 < xs.length := by omega
    obtain ⟨its, rv, pl, hz⟩ := (t.inv I).list (t.same.seq hl)
    have W := Walks.list (prog := X.prog) (w := X.w) (A := X.A.in1) (I.ok.hd hc) J l nlJ its.toArray
    have hsz : its.toArray.size = xs.length := by rw [List.size_toArray, ← rv.length]
    refine codeAny_builtin PySem.F.entry_min_loop ?_
    rw [Around.under_plainId PySem.F.plain_min_loop _]
    show wpAny _ X.A.in1 (seqItems? (.ref S) >>= _) _ _ _
    refine wpAny_bind (wpAny_seqItems hS rfl ?_)
    show wpAny _ X.A.in1 (tryCatch (pyNext (.ref J)) _ >>= _) _ _ _
    refine wpAny_bind (wpAny_tryCatch (W.item (j + 1) _ _ _ (by rw [hsz]; exact hlt) ⟨hit, pl.isList⟩ fun v h' tk' hP hst' hk' => ?_))
    have kJ : ButA J s.heap h' := fun b o n e => hk' b o (by simpa using n) e
    have t1 := t.but (tk := tk') nJ0 t.nJ kJ
    have hS1 := kJ S _ nSJ hS
    obtain ⟨oJ, hoJ, hoc, hod⟩ := id hst'.1
    have hv : its[j + 1]? = some v := by simpa using hP
    obtain ⟨y, hy, ry⟩ : ∃ y, xs[j + 1]? = some y ∧ RelV y v := by
      have e := List.getElem?_eq_getElem hlt
      obtain ⟨u, hu, ru⟩ := rv.get e
      rw [hv] at hu
      cases hu
      exact ⟨_, e, ru⟩
    show wpAny _ X.A.in1 (tryCatch (holding [v] (call (.ref f) [v])) _ >>= _) _ _ _
    refine wpAny_bind (wpAny_tryCatch (wpAny_holding (turn_ok I kO hf hfn hfr t1 fS fJ hS1 hoJ hy ry fun H2 s2 t2 u2 hS2 hJ2 => ?_)))
    have hit2 : s2.heap.IsListIter J l (j + 1 + 1) := ⟨oJ, hJ2, hoc, hod⟩
    show wpAny _ X.A.in1 (tryCatch (holding [v, .int (kf (j + 1)) t2] (richCompare .Lt (.int (kf (j + 1)) t2) (.int (kf i) tb) >>= _)) _ >>= _) _ _ _
    refine wpAny_bind (wpAny_tryCatch (wpAny_holding (wpAny_bind (CmpOf.ints_lt (prog := X.prog) (w := X.w) (A := X.A.in1) (P := fun i v => ∃ t, v = .int (kf i) t) kf (fun i v h => h) (j + 1) i _ _ _ _ _ ⟨t2, rfl⟩ ⟨tb, rfl⟩ ?_))))
    refine wpAny_bind (wpAny_holding (wpAny_truthy_bool ?_))
    refine wpAny_bind (wpAny_letGo (wpAny_pure ?_))
    by_cases hb : kf (j + 1) < kf i
    · simp only [hb, decide_true, if_true]
      have sb := Heap.SameBut.update s2.heap S (Obj.mapSeq fun _ => #[v, .int (kf (j + 1)) t2])
      obtain ⟨c2, hc2⟩ : ∃ c2, (s2.heap.update S (Obj.mapSeq fun _ => #[v, .int (kf (j + 1)) t2])).get? S = some (seqObj "list" #[v, .int (kf (j + 1)) t2] c2) := ⟨_, get?_update_seq hS2 fun _ => #[v, .int (kf (j + 1)) t2]⟩
      refine wpAny_bind (wpAny_updateSeq hS2 rfl (wpAny_bind (wpAny_letGo ?_)))
      rw [name_min]
      refine wpAny_pure ⟨plainId_quiet PySem.F.plain_min_loop _, ih (j + 1) (j + 1) y v t2 c2 H2 _ (by omega) hlt (u2.but (tk := s2.toks) nS0 u2.nS fun b o n e => (sb.2 b n).trans e) hc2 ⟨oJ, (sb.2 J nSJ.symm).trans hJ2, hoc, hod⟩ hy ry (Nat.le_refl _) fun j' hj' => ?_⟩
      by_cases e : j' = j + 1
      · subst e
        exact ⟨Int.le_refl _, fun h => absurd h (Nat.lt_irrefl _)⟩
      · have q := (best j' (by omega)).1
        exact ⟨by omega, fun _ => by omega⟩
    · simp only [hb, decide_false, Bool.false_eq_true, if_false]
      refine wpAny_bind (wpAny_letGo ?_)
      rw [name_min]
      refine wpAny_pure ⟨plainId_quiet PySem.F.plain_min_loop _, ih (j + 1) i x vb tb c H2 _ (by omega) hlt u2 hS2 hit2 hx rx (by omega) fun j' hj' => ?_⟩
      by_cases e : j' = j + 1
      · subst e
        exact ⟨by omega, fun h => by omega⟩
      · exact best j' (by omega)
end
end MnK
set_option Elab.async false
set_option linter.all false
set_option maxRecDepth 100000
set_option maxHeartbeats 2000000
set_option pp.maxSteps 900
namespace MnK
open PySem PySem.Spec PyProof.Rows L2 LamX
section
variable {X : Cx} {pins : List (Addr × Obj)} {σ : L2.St} {H0 : Hp} {s0 : Shared} {l f : Addr} {ob : Obj} {xs : List V} {kf : Nat → Int} {Q : Value → Shared → Prop} {E : Value → Shared → Prop} {dk : List (Str × Value)} {kw : List (Str × Value)}
/-- ahead of the loop: the iterator and the list of the best -/
theorem min_go (I : Inv X pins σ H0 s0) (hc : X.calm = true) (hl : SqL X.K H0 l xs) (ll : l < s0.heap.objs.size) (ha : argsOk "min" ⟨[.ref l], kw⟩) (hb : Builtin.Builtins.bindParams "min" ["key", "default"] 0 ⟨[], kw⟩ = pure [some (.ref f), dk.head?.map (·.2)]) (hd : (dk.head?.map (·.2)).toList.map (fun d => (Str.ofString "default", d)) = dk)
    (go : ∀ (S J : Addr) (s : Shared), s0.heap.objs.size ≤ S → s0.heap.objs.size ≤ J → S ≠ J → Std X H0 s0 S J l H0 s → s.heap.get? S = some (seqObj "list" #[] 0) → s.heap.IsListIter J l 0 →
      codeAny (model X.prog X.w) X.A (.builtin "min.loop" ⟨[.ref J, .ref f, .ref S], dk⟩) (fun r s' => match r with | .ok (.ret v) => Q v s' | .ok _ => False | .error e => E e s') s) :
    wpAny (model X.prog X.w) X.A (call (.builtin "min") [.ref l] kw) Q E s0 := by
  obtain ⟨its, rv, pl, hz⟩ := I.list hl
  refine kmk_tree PySem.F.kind_min PySem.F.plain_min PySem.F.entry_min ha ?_
  show wpAny _ X.A.in1 (Builtin.Builtins.bindParams "min" ["key", "default"] 0 ⟨[], kw⟩ >>= _) _ _ s0
  refine wpAny_bind (wpAny_of_eq hb ?_)
  refine wpAny_bind (wpAny_pure ?_)
  refine wpAny_bind (wpAny_pyIter_list pl.isList ?_)
  refine wpAny_bind (wpAny_newList ?_ (Nat.zero_le _))
  rw [name_min]
  obtain ⟨h1, e1⟩ : ∃ h1, h1 = s0.heap.push { cls := .type "list_iterator", data := .fields #[.ref l, .int 0 0] } := ⟨_, rfl⟩
  have z1 : h1.objs.size = s0.heap.objs.size + 1 := by rw [e1]; exact size_push' ..
  refine wpAny_pure ⟨plainId_quiet PySem.F.plain_min_loop _, ?_⟩
  show codeAny _ _ (.builtin "min.loop" ⟨[.ref s0.heap.objs.size, .ref f, .ref (s0.heap.push { cls := .type "list_iterator", data := .fields #[.ref l, .int 0 0] }).objs.size], (dk.head?.map (·.2)).toList.map fun d => (Str.ofString "default", d)⟩) _ { s0 with heap := (s0.heap.push { cls := .type "list_iterator", data := .fields #[.ref l, .int 0 0] }).push (seqObj "list" #[] 0) }
  rw [hd, ← e1]
  have kp : ∀ b o, s0.heap.get? b = some o → (h1.push (seqObj "list" #[] 0)).get? b = some o := fun b o e => Heap.get?_push_of_some _ (by rw [e1]; exact Heap.get?_push_of_some _ e)
  refine go h1.objs.size s0.heap.objs.size _ (by rw [z1]; exact Nat.le_succ _) (Nat.le_refl _) (by rw [z1]; exact Nat.succ_ne_self _) ⟨rfl, I.bare, Un.kept kp, I.hok.kept kp, fun _ _ e => e, I.hok.fresh (by rw [z1]; exact Nat.le_succ _), I.hok.fresh (Nat.le_refl _)⟩ (Heap.get?_push_size _ rfl) ⟨_, Heap.get?_push_of_some _ (by rw [e1]; exact Heap.get?_push_size _ rfl), rfl, rfl⟩
theorem min_some (I : Inv X pins σ H0 s0) (hc : X.calm = true) (kO : KeyOk X pins σ H0 f ob xs kf) (hf : s0.heap.get? f = some ob) (hfn : H0 f = none) (hfr : f ∉ frs X.stack) (hl : SqL X.K H0 l xs) (ll : l < s0.heap.objs.size) (ne : xs ≠ []) (ha : argsOk "min" ⟨[.ref l], kw⟩)
    (hb : Builtin.Builtins.bindParams "min" ["key", "default"] 0 ⟨[], kw⟩ = pure [some (.ref f), dk.head?.map (·.2)]) (hd : (dk.head?.map (·.2)).toList.map (fun d => (Str.ofString "default", d)) = dk)
    (hQ : ∀ i x v H s, xs[i]? = some x → RelV x v → BestMin kf i xs.length → L2.Same H0 H → s.os = s0.os → AllBare s.gens → Un (frs X.stack) [] H0 H s0.heap s.heap → HOk X.prog X.w H s.heap → Q v s) :
    wpAny (model X.prog X.w) X.A (call (.builtin "min") [.ref l] kw) Q E s0 := by
  have pos : 0 < xs.length := List.length_pos_iff.mpr ne
  refine min_go I hc hl ll ha hb hd fun S J s fS fJ nSJ t hS hit => ?_
  have nJ0 := gone (h := s0.heap) fJ
  have nS0 := gone (h := s0.heap) fS
  have nlJ : l ≠ J := Nat.ne_of_lt (Nat.lt_of_lt_of_le ll fJ)
  obtain ⟨its, rv, pl, hz⟩ := (t.inv I).list (t.same.seq hl)
  have W := Walks.list (prog := X.prog) (w := X.w) (A := X.A.in1) (I.ok.hd hc) J l nlJ its.toArray
  have hsz : its.toArray.size = xs.length := by rw [List.size_toArray, ← rv.length]
  refine codeAny_builtin PySem.F.entry_min_loop ?_
  rw [Around.under_plainId PySem.F.plain_min_loop _]
  show wpAny _ X.A.in1 (seqItems? (.ref S) >>= _) _ _ _
  refine wpAny_bind (wpAny_seqItems hS rfl ?_)
  show wpAny _ X.A.in1 (tryCatch (pyNext (.ref J)) _ >>= _) _ _ _
  refine wpAny_bind (wpAny_tryCatch (W.item 0 _ _ _ (by rw [hsz]; exact pos) ⟨hit, pl.isList⟩ fun v h' tk' hP hst' hk' => ?_))
  have kJ : ButA J s.heap h' := fun b o n e => hk' b o (by simpa using n) e
  have t1 := t.but (tk := tk') nJ0 t.nJ kJ
  have hS1 := kJ S _ nSJ hS
  obtain ⟨oJ, hoJ, hoc, hod⟩ := id hst'.1
  have hv : its[0]? = some v := by simpa using hP
  obtain ⟨y, hy, ry⟩ : ∃ y, xs[0]? = some y ∧ RelV y v := by
    have e := List.getElem?_eq_getElem pos
    obtain ⟨u, hu, ru⟩ := rv.get e
    rw [hv] at hu
    cases hu
    exact ⟨_, e, ru⟩
  show wpAny _ X.A.in1 (tryCatch (holding [v] (call (.ref f) [v])) _ >>= _) _ _ _
  refine wpAny_bind (wpAny_tryCatch (wpAny_holding (turn_ok I kO hf hfn hfr t1 fS fJ hS1 hoJ hy ry fun H2 s2 t2 u2 hS2 hJ2 => ?_)))
  have sb := Heap.SameBut.update s2.heap S (Obj.mapSeq fun _ => #[v, .int (kf 0) t2])
  obtain ⟨c2, hc2⟩ : ∃ c2, (s2.heap.update S (Obj.mapSeq fun _ => #[v, .int (kf 0) t2])).get? S = some (seqObj "list" #[v, .int (kf 0) t2] c2) := ⟨_, get?_update_seq hS2 fun _ => #[v, .int (kf 0) t2]⟩
  show wpAny _ X.A.in1 (updateSeq S (fun _ => #[v, .int (kf 0) t2]) >>= _) _ _ _
  refine wpAny_bind (wpAny_updateSeq hS2 rfl ?_)
  rw [name_min]
  refine wpAny_pure ⟨plainId_quiet PySem.F.plain_min_loop _, loop_min I hc kO hf hfn hfr hl ll fS fJ nSJ (fun i x v H s a b c t => hQ i x v H s a b c t.same t.os t.bare t.un t.hok) _ 0 0 y v t2 c2 H2 _ rfl (by omega) (u2.but (tk := s2.toks) nS0 u2.nS fun b o n e => (sb.2 b n).trans e) hc2 ⟨oJ, (sb.2 J nSJ.symm).trans hJ2, hoc, hod⟩ hy ry (Nat.le_refl _) fun j' hj' => ?_⟩
  have e : j' = 0 := by omega
  subst e
  exact ⟨Int.le_refl _, fun h => absurd h (Nat.lt_irrefl _)⟩
end
end MnK
set_option Elab.async false
set_option linter.all false
set_option maxRecDepth 100000
set_option maxHeartbeats 2000000
set_option pp.maxSteps 900
namespace MnK
open PySem PySem.Spec PyProof.Rows L2 LamX NdefX
theorem rd_extN {H H' : Hp} {a : Addr} {d : HO} (h : Rd H a d) (e : ExtN H H') (n : ∀ ps, d ≠ .tbl ps) : Rd H' a d := by
  rcases h with h | h
  · exact .inl (e _ _ h n)
  · exact .inr (h.imp fun o h => e _ _ h fun ps z => by cases z)
theorem sql_extN {K : PySem.W.Frag} {H H' : Hp} {a : Addr} {xs : List V} (h : SqL K H a xs) (e : ExtN H H') : SqL K H' a xs :=
  h.elim (fun h => .inl (rd_extN h e fun ps z => by cases z)) .inr
/-- the words of a lambda -/
abbrev lamF (q : Str) (params : Arguments) (scope : Scope) (cl : List (Str × Addr)) (c : Addr) : NF := ⟨"<lambda>", q, params, [], scope, cl, c⟩
/-- a call of a lambda's object, by its body -/
theorem lam_run {CX : CXT} {P : Program} {w : World} {K : PySem.W.Frag} {mg : Str → Option Value} {base : Heap} {N ps fr : List Str} {q : Str} {params : Arguments} {body : Expr} {scope : Scope} {cl : List (Str × Addr)} {pm ctv : Value} {c' f : Addr} {k : Nat} {A : Around} {outer : List Env} {s : Shared} {H : Hp}
    {us : List Value} {vs : List V} {ws : List (Option V)} {Q : VK} {E : XK} (S : NScope N ps fr scope) (hb : bindArgs (PySem.W.kla_fn "<lambda>" q params body scope cl pm (.ref c') ctv) ⟨us, []⟩ = pure (ps.zip us)) (hr : Room (k + 1) A) (e0 : Env0 P w K mg base A outer s H)
    (ho : s.heap.get? f = some (PySem.W.kla_obj "<lambda>" q params body scope cl pm c' ctv)) (hc : H c' = some (CodeO c' q)) (C : CellsAt cl fr ws s.heap H) (r : Vals vs us) (hl : vs.length = ps.length)
    (hbody : Room k (A.deeper (envF (lamF q params scope cl c') f s.heap.objs.size)) → ∃ t, PE (ncx CX P w K mg base N (lamF q params scope cl c') f A outer s H E) body t ∧ t (startF N vs ws) H Q) :
    codeAny (model P w) A (.call (.ref f) ⟨us, []⟩) (CR CX outer P w H s Q E) s := by
  have lim : s.heap.NoLimit := e0.mod.nolimit.keeps fun b o e => (e0.bs b o e).1
  refine PySem.W.kla_callFunE hr.depth ho rfl S.co S.gen rfl (codeO_at e0.hok hc) ?_
  rw [hb]
  refine wpAny_pure (wpAny_newFunctionEnv S.nocell (fun ⟨n, _⟩ hy => S.par n (List.of_mem_zip hy).1) (fun h₁ hns hsb => ⟨lim.fresh _ hsb, ?_⟩) S.kind)
  show codeAny _ _ (.expr body (envF (lamF q params scope cl c') f s.heap.objs.size)) _ _
  have kp : ∀ b o, s.heap.get? b = some o → h₁.get? b = some o := fun b o e => hsb.extBut b o (Nat.ne_of_lt (Heap.lt_size e)) (Heap.get?_push_of_some _ e)
  obtain ⟨t, ht, hq⟩ := hbody (hr.deeper _)
  have I : Inv (ncx CX P w K mg base N (lamF q params scope cl c') f A outer s H E) [] (startF N vs ws) H { s with heap := h₁, toks := s.toks + (ps.zip us).length } := inv_startN (F := lamF q params scope cl c') S hr.hd e0 hl r C hns kp
  refine PySem.W.kla_codeExpr (wpAny_mono (ht.run [] _ (startF N vs ws) H Q I hq) (fun v s' hs => ?_) fun e s' hs => hs)
  obtain ⟨v', H', J, rv, q'⟩ := hs
  exact ⟨v', H', J.os, J.bare, J.base, J.hok, rv, q'⟩
section
variable {X : Cx} {pins : List (Addr × Obj)} {σ : L2.St} {H0 : Hp}
/-- the key function's promise, by the lambda's body -/
theorem key_of {N fr : List Str} {a : Str} {params : Arguments} {body : Expr} {scope : Scope} {pm ctv : Value} {c' f : Addr} {k : Nat} {js : List Nat} {xs : List V} {kf : Nat → Int} {q : Str} (S : NScope N [a] fr scope)
    (hb : ∀ (q : Str) (cl : List (Str × Addr)) (pm cv ctv u : Value), bindArgs (PySem.W.kla_fn "<lambda>" q params body scope cl pm cv ctv) ⟨[u], []⟩ = pure [(a, u)]) (hr : Room (k + 2) X.A)
    (hfree : ∀ y ∈ scope.names, y.2 = .free → X.env.scope.names.lookup y.1 = some .cell ∨ X.env.scope.names.lookup y.1 = some .free) (hfr : ∀ y ∈ fr, (y, NameKind.free) ∈ scope.names) (hjs : js.map (fun j => X.N[j]?) = fr.map some)
    (hc : H0 c' = some (CodeO c' q))
    (hbody : ∀ (A : Around) (outer : List Env) (s : Shared) (H : Hp) (j : Nat) (x : V), Room k (A.deeper (envF (lamF q params scope (cloFrom X.env.cells scope.names []) c') f s.heap.objs.size)) → L2.Same H0 H → xs[j]? = some x →
      ∃ t, PE (ncx CX0 X.prog X.w X.K X.mg X.base N (lamF q params scope (cloFrom X.env.cells scope.names []) c') f A outer s H E0) body t ∧ t (startF N [x] (js.map (slotAt σ))) H (fun y H' => y = .int (kf j) ∧ L2.Same H H')) :
    KeyOk X pins σ H0 f (PySem.W.kla_obj "<lambda>" q params body scope (cloFrom X.env.cells scope.names []) pm c' ctv) xs kf := by
  intro j x v H s I sm ho hx r
  have e0 : Env0 X.prog X.w X.K X.mg X.base X.A.in1 X.stack s H := ⟨I.env0.frames, I.env0.mod, I.env0.bs, I.env0.bsz, I.env0.funs, I.env0.frf, I.env0.hok, I.env0.bare⟩
  exact lam_run (ps := [a]) (fr := fr) (ws := js.map (slotAt σ)) (vs := [x]) (k := k) S (hb _ _ _ _ _ _) hr.in1 e0 ho (sm _ _ hc) (cells_of I (Caps.made I.ok hfree hfr hjs)) (.cons r .nil) rfl fun hr' => hbody _ _ s H j x hr' sm hx
end
end MnK
set_option Elab.async false
set_option linter.all false
set_option maxRecDepth 100000
set_option maxHeartbeats 2000000
set_option pp.maxSteps 900
namespace MnK
open PySem PySem.Spec PyProof.Rows L2 LamX NdefX
/-- without default: the list is not empty -/
def tMinLam1 (T : List (Addr × Str)) (K : PySem.W.Frag) (N : List Str) (js : List Nat) (te tb : TE) : TE := fun σ H Q => te σ H fun v H1 => ∃ (l : Addr) (xs : List V) (kf : Nat → Int), v = .ref l ∧ SqL K H1 l xs ∧ xs ≠ [] ∧ Tabs T H1 ∧
  (∀ H2, ExtN H1 H2 → Tabs T H2 →
    (∀ H3 j x, L2.Same H2 H3 → xs[j]? = some x → tb (startF N [x] (js.map (slotAt σ))) H3 (fun y H4 => y = .int (kf j) ∧ L2.Same H3 H4)) ∧
    (∀ i x H4, xs[i]? = some x → BestMin kf i xs.length → L2.Same H2 H4 → Q x H4))
theorem args_k1 (a v : Value) : argsOk "min" ⟨[a], [(Str.ofString "key", v)]⟩ := by unfold argsOk; kernel_rfl
theorem pe_minLam1 {X : Cx} {N fr : List Str} {a : Str} {params : Arguments} {body e : Expr} {scope : Scope} {k j : Nat} {js : List Nat} {T : List (Addr × Str)} {c P : Addr} {te tb : TE} {p lpos cpos kp1 kp2 pos : Pos} (hg : Gl X "min") (hm : X.mg "min" = none) (he : PE X e te) (hcalm : X.calm = true)
    (TB : TabB X.base X.mg c P) (hcode : X.env.code = .ref c) (hmT : (P, X.env.qual ++ "<lambda>") ∈ T) (hu : ∀ p ∈ T, p.1 = P → p.2 = X.env.qual ++ "<lambda>") (hdef : defaultsOf params X.env = ([], [])) (S : NScope N [a] fr scope)
    (hb : ∀ (q : Str) (cl : List (Str × Addr)) (pm cv ctv u : Value), bindArgs (PySem.W.kla_fn "<lambda>" q params body scope cl pm cv ctv) ⟨[u], []⟩ = pure [(a, u)]) (hr : Room (k + 2) X.A)
    (hfree : ∀ y ∈ scope.names, y.2 = .free → X.env.scope.names.lookup y.1 = some .cell ∨ X.env.scope.names.lookup y.1 = some .free) (hfr : ∀ y ∈ fr, (y, NameKind.free) ∈ scope.names) (hjs : js.map (fun j => X.N[j]?) = fr.map some)
    (hbody : ∀ (A : Around) (outer : List Env) (s : Shared) (H : Hp) (f c' : Addr), Room k (A.deeper (envF (lamF (X.env.qual ++ "<lambda>") params scope (cloFrom X.env.cells scope.names []) c') f s.heap.objs.size)) →
      PE (ncx CX0 X.prog X.w X.K X.mg X.base N (lamF (X.env.qual ++ "<lambda>") params scope (cloFrom X.env.cells scope.names []) c') f A outer s H E0) body tb)
    (hst : backTo pos (starEach [e] X.env) = (false, eval e X.env) :: backTo pos (starEach [] X.env) := by rfl) (hpl : (backTo pos (starEach [e] X.env)).any (·.1) = false := by rfl) :
    PE X (.Call (.Name "min" p) [e] [⟨some (Str.ofString "key"), .Lambda params body scope lpos, kp1⟩] pos) (tMinLam1 T X.K N js te tb) := by
  refine ⟨fun pins s σ H Q I h => ?_⟩
  refine wpAny_Call_Name_kw (ld_blt I hg hm rfl ?_)
  refine PyProof.Rows.callWith_kw ?_ hst hpl rfl rfl
  rw [hst]
  refine Calls.spliced_cons (thn (he.run pins s σ H _ I h) fun u s1 ⟨v, H1, I1, r1, l, xs, kf, ev, hl, ne, hT, hh⟩ => Calls.spliced_nil ?_)
  subst ev
  obtain rfl : u = Value.ref l := r1
  refine PyProof.Rows.kws_cons (lam_make2 I1 TB hcode hmT hu hT hdef (fun y hy e => (hfree y hy e).elim (fun z => I1.ok.has _ (.inl z)) fun z => I1.ok.has _ (.inr z)) fun f c' pm ctv H2 s2 I2 eN T2 hf hfn hfrm hco => ?_)
  refine PyProof.Rows.kws_nil ?_
  obtain ⟨h1, h3⟩ := hh H2 eN T2
  have hl2 := sql_extN hl eN
  have ll : l < s2.heap.objs.size := by
    obtain ⟨its, rv, pl, hz⟩ := I2.list hl2
    obtain ⟨o, ho, _⟩ := pl.isList
    exact Heap.lt_size ho
  have kO : KeyOk X pins σ H2 f (PySem.W.kla_obj "<lambda>" (X.env.qual ++ "<lambda>") params body scope (cloFrom X.env.cells scope.names []) pm c' ctv) xs kf :=
    key_of S hb hr hfree hfr hjs hco fun A outer s H j x hr' sm hx => ⟨tb, hbody A outer s H f c' hr', h1 H j x sm hx⟩
  refine min_some (dk := []) I2 hcalm kO hf hfn hfrm hl2 ll ne (args_k1 _ _) rfl rfl fun i x v H4 s' hx rx bm sm os bare un hok => ?_
  exact I2.after ⟨x, H4, os, bare, un, hok, rx, h3 i x H4 hx bm sm⟩
end MnK
set_option Elab.async false
set_option linter.all false
set_option maxRecDepth 100000
namespace GC
open PySem PySem.Spec PyProof.Rows L2
abbrev NoE : Value → Shared → Prop := fun _ _ => False
section
variable {prog : Program} {w : World} {A : Around} {R : Result → Shared → Prop} {s : Shared} {env : Env} {it acc : Value}
/-- what the last clause of a comprehension does with an item that passed the tests -/
def Emit (prog : Program) (w : World) (A : Around) (env : Env) (acc : Value) : Expr → (Shared → Prop) → Shared → Prop
  | .ListComp elt _ _ _, Q, s => wpAny (model prog w) A (eval elt env) (fun x s => wpAny (model prog w) A (call (.builtin "list.append") [acc, x]) (fun _ s => Q s) NoE s) NoE s
  | .SetComp elt _ _ _, Q, s => wpAny (model prog w) A (eval elt env) (fun x s => wpAny (model prog w) A (call (.builtin "set.add") [acc, x]) (fun _ s => Q s) NoE s) NoE s
  | .DictComp k v _ _ _, Q, s => ∃ D, acc = .ref D ∧ wpAny (model prog w) A (eval k env) (fun x s => wpAny (model prog w) A (eval v env) (fun y s => wpAny (model prog w) A (dictSet D x y) (fun _ s => Q s) NoE s) NoE s) NoE s
  | _, _, _ => False
/-- what one turn of a clause comes to, D what follows the tests -/
def Turned (prog : Program) (w : World) (A : Around) (env : Env) (it : Value) (tg : Expr) (ifs : List Expr) (Done : Shared → Prop) (Dp : (Shared → Prop) → Shared → Prop) (Nx : Shared → Prop) (s : Shared) : Prop :=
  wpAny (model prog w) A (pyNext it) (fun r s₁ => match r with
    | none => Done s₁
    | some v => wpAny (model prog w) A (letOwnedTupleGo tg it v) (fun _ s₂ => wpAny (model prog w) A (assign tg env v) (fun _ s₃ =>
        wpAny (model prog w) A (forIn ifs true fun c r => if r = true then do let ok ← isTrue c env (eval c env); pure (ForInStep.yield ok) else pure (ForInStep.yield r)) (fun ok s₄ => if ok = true then Dp Nx s₄ else Nx s₄) NoE s₃) NoE s₂) NoE s₁) NoE s
def Deep (prog : Program) (w : World) (A : Around) (env : Env) (acc : Value) (e : Expr) (d : Nat) (g : Comprehension) (Nx : Shared → Prop) (s : Shared) : Prop :=
  wpAny (model prog w) A (eval g.iter env) (fun x s => wpAny (model prog w) A (pyIter x) (fun it1 s => codeAny (model prog w) A (.compStart e (d + 1) it1 acc env) (fun r s' => match r with
    | .ok _ => Nx s'
    | .error _ => False) s) NoE s) NoE s
inductive Kd : Expr → List Comprehension → Prop
  | l (elt gens scope pos) : Kd (.ListComp elt gens scope pos) gens
  | s (elt gens scope pos) : Kd (.SetComp elt gens scope pos) gens
  | d (k v gens scope pos) : Kd (.DictComp k v gens scope pos) gens
theorem loop_last {e : Expr} {gens : List Comprehension} {d : Nat} {tg iter : Expr} {ifs : List Expr} (K : Kd e gens) (hd : gens[d]? = some ⟨tg, iter, ifs, 0⟩) (hl : gens[d + 1]? = none) (I : Nat → Shared → Prop)
    (turn : ∀ n s, I n s → Turned prog w A env it tg ifs (R (.ok .next)) (Emit prog w A env acc e) (fun s' => ∃ m, m < n ∧ I m s') s) (n : Nat) (h : I n s) : codeAny (model prog w) A (.compLoop e d it acc env) R s := by
  cases K
  all_goals
    refine codeAny_loop rfl I (fun n s hI => ?_) n h
    refine wpAny_noted (M := model prog w) ?_
    unfold compTurn; dsimp only; rw [hd, hl]; dsimp only
    refine wpAny_bind (wpAny_standAt (wpAny_bind (wpAny_mono (turn n s hI) (fun r s₁ h₁ => ?_) fun _ _ z => z.elim)))
    cases r with
    | none => exact wpAny_pure h₁
    | some v =>
      refine wpAny_bind (wpAny_mono h₁ (fun _ s₂ h₂ => wpAny_bind (wpAny_mono h₂ (fun _ s₃ h₃ => wpAny_bind (wpAny_mono h₃ (fun ok s₄ h₄ => ?_) fun _ _ z => z.elim)) fun _ _ z => z.elim)) fun _ _ z => z.elim)
      cases ok with
      | false => exact wpAny_pure ⟨rfl, h₄⟩
      | true =>
        first
          | exact wpAny_bind (wpAny_bind (wpAny_mono h₄ (fun x s₄ h₄ => wpAny_bind (wpAny_mono h₄ (fun _ s₅ h₅ => wpAny_pure (wpAny_pure ⟨rfl, h₅⟩)) fun _ _ z => z.elim)) fun _ _ z => z.elim))
          | exact wpAny_bind (wpAny_bind (wpAny_mono h₄ (fun x s₄ h₄ => wpAny_bind (wpAny_standAt (wpAny_bind (wpAny_mono h₄ (fun _ s₅ h₅ => wpAny_pure (wpAny_pure ⟨rfl, h₅⟩)) fun _ _ z => z.elim)))) fun _ _ z => z.elim))
          | (obtain ⟨D, rfl, h₅⟩ := h₄
             exact wpAny_bind (wpAny_bind (wpAny_mono h₅ (fun x s₄ h₄ => wpAny_bind (wpAny_holding (wpAny_mono h₄ (fun y s₅ h₅ => wpAny_bind (wpAny_standAt (wpAny_holding (wpAny_mono h₅ (fun _ s₆ h₆ => wpAny_pure ⟨rfl, h₆⟩) fun _ _ z => z.elim)))) fun _ _ z => z.elim))) fun _ _ z => z.elim)))
theorem loop_more {e : Expr} {gens : List Comprehension} {d : Nat} {tg iter tg1 iter1 : Expr} {ifs ifs1 : List Expr} (K : Kd e gens) (hd : gens[d]? = some ⟨tg, iter, ifs, 0⟩) (hl : gens[d + 1]? = some ⟨tg1, iter1, ifs1, 0⟩) (hs : ∀ x, foldedSetIterable iter1 env x = pure x) (I : Nat → Shared → Prop)
    (turn : ∀ n s, I n s → Turned prog w A env it tg ifs (R (.ok .next)) (Deep prog w A env acc e d ⟨tg1, iter1, ifs1, 0⟩) (fun s' => ∃ m, m < n ∧ I m s') s) (n : Nat) (h : I n s) : codeAny (model prog w) A (.compLoop e d it acc env) R s := by
  cases K
  all_goals
    refine codeAny_loop rfl I (fun n s hI => ?_) n h
    refine wpAny_noted (M := model prog w) ?_
    unfold compTurn; dsimp only; rw [hd, hl]; dsimp only
    refine wpAny_bind (wpAny_standAt (wpAny_bind (wpAny_mono (turn n s hI) (fun r s₁ h₁ => ?_) fun _ _ z => z.elim)))
    cases r with
    | none => exact wpAny_pure h₁
    | some v =>
      refine wpAny_bind (wpAny_mono h₁ (fun _ s₂ h₂ => wpAny_bind (wpAny_mono h₂ (fun _ s₃ h₃ => wpAny_bind (wpAny_mono h₃ (fun ok s₄ h₄ => ?_) fun _ _ z => z.elim)) fun _ _ z => z.elim)) fun _ _ z => z.elim)
      cases ok with
      | false => exact wpAny_pure ⟨rfl, h₄⟩
      | true =>
        unfold Deep at h₄
        refine wpAny_bind (wpAny_mono h₄ (fun x s₅ h₅ => ?_) fun _ _ z => z.elim)
        refine wpAny_bind (wpAny_standAt (wpAny_bind (wpAny_of_eq (hs x) (wpAny_bind (wpAny_holding (wpAny_mono h₅ (fun it1 s₆ h₆ => ?_) fun _ _ z => z.elim))))))
        refine wpAny_bind (wpAny_runOwn ?_)
        rw [Around.mark_none]
        refine codeAny_mono h₆ fun r s' hr => ?_
        cases r with
        | ok f =>
          first
            | exact wpAny_pure ⟨rfl, hr⟩
            | exact wpAny_bind (wpAny_pure (wpAny_pure ⟨rfl, hr⟩))
        | error e => exact hr.elim
theorem start_any {e : Expr} {gens : List Comprehension} {d : Nat} {tg iter : Expr} {ifs : List Expr} (K : Kd e gens) (hd : gens[d]? = some ⟨tg, iter, ifs, 0⟩) (h0 : codeAny (model prog w) A (.compLoop e d it acc env) R s)
    (h : wpAny (model prog w) A (pyIter it) (fun it' s' => codeAny (model prog w) A (.compLoop e d it' acc env) R s') NoE s) : codeAny (model prog w) A (.compStart e d it acc env) R s := by
  cases K
  all_goals
    refine codeAny_of_tree ?_
    refine wpAny_notedAt (M := model prog w) ?_
    unfold compStart clausesOf
    rw [hd]
    refine wpAny_bind (wpAny_askSetting (wpAny_ite ?_))
    split
    · first
        | exact wpAny_bind (wpAny_pure (wpAny_pure (And.intro rfl h0)))
        | exact wpAny_pure (And.intro rfl h0)
    · first
        | exact wpAny_bind (wpAny_rule (wpAny_bind (wpAny_standAt (wpAny_bind (wpAny_mono h (fun it' s' h' => wpAny_pure (And.intro rfl h')) fun _ _ x => x.elim)))))
        | (refine wpAny_bind (wpAny_rule ?_); show wpAny _ _ (standAt iter.pos >>= _) _ _ s; exact wpAny_bind (wpAny_standAt (wpAny_bind (wpAny_mono h (fun it' s' h' => wpAny_pure (And.intro rfl h')) fun _ _ x => x.elim))))
end
/-- one clause: target, source, tests, with their readings and the places that the target stores to -/
structure Cl where
  tg : Expr
  iter : Expr
  ifs : List Expr
  wi : TI
  g : TG
  tt : TT
  vs : List Nat
def Cl.c (c : Cl) : Comprehension := ⟨c.tg, c.iter, c.ifs, 0⟩
/-- a clause's loop from the heap H: W by the turn and a measure; D what an item that passes comes to; End what stands at the end -/
def Lp (J : It) (g : TG) (tt : TT) (vs : List Nat) (D : L2.St → Hp → (Hp → Prop) → Prop) (σ : L2.St) (H : Hp) (End : Hp → Prop) : Prop :=
  ∃ W : Nat → Nat → Hp → Prop, (∃ m, W 0 m H) ∧ ∀ i m H, W i m H → (J.stop i H ∧ End H) ∨ (J.go i H ∧ ∃ Nx : Hp → Prop, (∀ H', Nx H' → ∃ m', m' < m ∧ W (i + 1) m' H') ∧
    ∀ x H', J.yld i H x H' → g x (wipe σ vs) H' fun σ2 H2 => wipe σ2 vs = wipe σ vs ∧ tt σ2 H2 fun b H3 => if b = true then D σ2 H3 Nx else Nx H3)
/-- what stands behind a clause's tests: the further clauses, at last the item's taking -/
def Rest (em : L2.St → Hp → (Hp → Prop) → Prop) : List Cl → L2.St → Hp → (Hp → Prop) → Prop
  | [], σ, H, Nx => em σ H Nx
  | c :: cs, σ, H, Nx => c.wi σ H fun J H1 => Lp J c.g c.tt c.vs (Rest em cs) σ H1 Nx
section
variable {X : Cx}
/-- what holds of each clause within the block B -/
structure ClOk (B : Cx) (c : Cl) : Prop where
  pg : PG B c.tg c.g
  pt : PTs B c.ifs c.tt
  hs : ∀ x, foldedSetIterable c.iter B.env x = pure x
abbrev EmOk (B : Cx) (acc : Value) (e : Expr) (em : L2.St → Hp → (Hp → Prop) → Prop) : Prop :=
  ∀ (pins : List (Addr × Obj)) (s : Shared) (σ : L2.St) (H : Hp) (Nx : Hp → Prop), Inv B pins σ H s → em σ H Nx → Emit B.prog B.w B.A B.env acc e (fun s' => ∃ H', Inv B pins σ H' s' ∧ Nx H') s
abbrev Knows (τ σ : L2.St) : Prop := τ.length = σ.length ∧ ∀ (j : Nat) v, τ[j]? = some (some v) → σ[j]? = some (some v)
theorem Knows.refl (σ : L2.St) : Knows σ σ := ⟨rfl, fun _ _ h => h⟩
theorem wipe_knows (σ : L2.St) (vs : List Nat) : Knows (wipe σ vs) σ := ⟨wipe_length _ _, fun _ _ e => (wipe_some e).1⟩
theorem wipe_wipe {σ : L2.St} {vs vs1 : List Nat} (h : ∀ i ∈ vs1, i ∈ vs) : Knows (wipe σ vs) (wipe σ vs1) := ⟨(wipe_length _ _).trans (wipe_length _ _).symm, fun j v e => by
  obtain ⟨e1, e2⟩ := wipe_some e
  rw [wipe_out fun z => e2 (h j z)]
  exact e1⟩
theorem Knows.trans {a b c : L2.St} (h : Knows a b) (k : Knows b c) : Knows a c := ⟨h.1.trans k.1, fun j v e => k.2 j v (h.2 j v e)⟩
/-- one turn of a clause -/
theorem turn_ok {B : Cx} {tg : Expr} {ifs : List Expr} {g : TG} {tt : TT} {vs : List Nat} {D : L2.St → Hp → (Hp → Prop) → Prop} {Dp : (Shared → Prop) → Shared → Prop} {σ : L2.St} {J : It} {fp : List Addr} {it : Addr} {tn : Nat → Heap → Prop} {End : Hp → Prop} {R : Result → Shared → Prop} {pins : List (Addr × Obj)}
    (hc : B.calm = true) (b1 : B.xe = NoE) (pg : PG B tg g) (pt : PTs B ifs tt) (T : Turn B.prog B.w B.K tg J fp it tn) (ffp : ∀ b ∈ fp, ∀ H', H' b = none → FpOk B pins H' b) (mono : ∀ {Q Q' : Shared → Prop} {s}, (∀ s', Q s' → Q' s') → Dp Q s → Dp Q' s)
    (deep : ∀ (pins' : List (Addr × Obj)) (s : Shared) (σ2 : L2.St) (H3 : Hp) (Nx : Hp → Prop), Inv B pins' σ2 H3 s → D σ2 H3 Nx → Dp (fun s' => ∃ σ9 H', Inv B pins' σ9 H' s' ∧ Knows (wipe σ2 vs) σ9 ∧ Nx H') s)
    {W : Nat → Nat → Hp → Prop} (turn : ∀ i m H, W i m H → (J.stop i H ∧ End H) ∨ (J.go i H ∧ ∃ Nx : Hp → Prop, (∀ H', Nx H' → ∃ m', m' < m ∧ W (i + 1) m' H') ∧
      ∀ x H', J.yld i H x H' → g x (wipe σ vs) H' fun σ2 H2 => wipe σ2 vs = wipe σ vs ∧ tt σ2 H2 fun b H3 => if b = true then D σ2 H3 Nx else Nx H3))
    (hR : ∀ s' H', Inv B pins (wipe σ vs) H' s' → End H' → R (.ok .next) s') (n : Nat) (s : Shared) (hI : ∃ i H', Inv B pins (wipe σ vs) H' s ∧ tn i s.heap ∧ (∀ b ∈ fp, H' b = none) ∧ W i n H') :
    Turned B.prog B.w B.A B.env (.ref it) tg ifs (R (.ok .next)) Dp (fun s' => ∃ m, m < n ∧ ∃ i H', Inv B pins (wipe σ vs) H' s' ∧ tn i s'.heap ∧ (∀ b ∈ fp, H' b = none) ∧ W i m H') s := by
  obtain ⟨i, H5, I5, st5, n5, w5⟩ := hI
  have stat : ∀ {H' : Hp}, (∀ b ∈ fp, H' b = none) → ∀ b ∈ fp, FpOk B pins H' b := fun hn b hb => ffp b hb _ (hn b hb)
  unfold Turned
  rcases turn i n H5 w5 with ⟨stop, qq⟩ | ⟨go, Nx, hNx, step⟩
  · refine thnF (T.done B rfl rfl rfl hc i pins s _ H5 NoE I5 (stat n5) st5 stop) fun r s6 ⟨hr, I6⟩ => ?_
    subst hr
    exact hR s6 H5 I6 qq
  · refine thnF (T.item B rfl rfl rfl hc i pins s _ H5 NoE I5 (stat n5) st5 go) fun r s6 ⟨u, hr, h6⟩ => ?_
    subst hr
    refine thnF h6 fun _ s7 ⟨x, H7, I7, r7, y7, st7, n7⟩ => ?_
    have I7' := I7.pinned (stat n7) (T.obj _ _ st7)
    have run1 := pg.run _ s7 _ H7 x u _ I7' r7 (step x H7 y7)
    rw [b1] at run1
    refine thnF run1 fun _ s8 ⟨σ8, H8, I8, hw8, q8⟩ => ?_
    have run2 := pt.run _ s8 σ8 H8 _ I8 q8
    rw [b1] at run2
    refine thnF run2 fun b s9 ⟨H9, I9, q9⟩ => ?_
    have fin : ∀ {σ9 : L2.St} {s' : Shared} {H' : Hp}, Inv B (pins ++ pinsAt fp s7.heap) σ9 H' s' → Knows (wipe σ vs) σ9 → Nx H' → ∃ m, m < n ∧ ∃ i H', Inv B pins (wipe σ vs) H' s' ∧ tn i s'.heap ∧ (∀ b ∈ fp, H' b = none) ∧ W i m H' := fun {σ9 s' H'} I' kn nx => by
      obtain ⟨m', hm, w'⟩ := hNx H' nx
      have pin' : ∀ b ∈ fp, ∀ o, s7.heap.get? b = some o → s'.heap.get? b = some o ∧ H' b = none := fun b hb o e =>
        let z := I'.pin (b, o) (List.mem_append_right _ (List.mem_append_right _ (mem_pinsAt hb e))); ⟨z.1, z.2.1⟩
      refine ⟨m', hm, i + 1, H', (I'.unpinned (pins := pins)).weak kn.1 kn.2, T.keep _ _ _ st7 fun b hb o e => (pin' b hb o e).1, fun b hb => ?_, w'⟩
      obtain ⟨o, e, _⟩ := T.obj _ _ st7 b hb
      exact (pin' b hb o e).2
    have k8 : Knows (wipe σ vs) σ8 := by
      rw [← hw8]
      exact wipe_knows σ8 vs
    cases b with
    | false => exact fin I9 k8 q9
    | true =>
      refine mono (fun s' h => ?_) (deep _ s9 σ8 H9 Nx I9 q9)
      obtain ⟨σ9, H', I', kn, nx⟩ := h
      rw [hw8] at kn
      exact fin I' kn nx
theorem emit_mono {prog : Program} {w : World} {A : Around} {env : Env} {acc : Value} {e : Expr} {Q Q' : Shared → Prop} {s : Shared} (h : ∀ s', Q s' → Q' s') (k : Emit prog w A env acc e Q s) : Emit prog w A env acc e Q' s := by
  unfold Emit at k ⊢
  split at k
  · exact wpAny_mono k (fun _ _ z => wpAny_mono z (fun _ _ q => h _ q) fun _ _ z => z) fun _ _ z => z
  · exact wpAny_mono k (fun _ _ z => wpAny_mono z (fun _ _ q => h _ q) fun _ _ z => z) fun _ _ z => z
  · obtain ⟨D, e, k⟩ := k
    exact ⟨D, e, wpAny_mono k (fun _ _ z => wpAny_mono z (fun _ _ q => wpAny_mono q (fun _ _ q => h _ q) fun _ _ z => z) fun _ _ z => z) fun _ _ z => z⟩
  · exact k
theorem deep_mono {prog : Program} {w : World} {A : Around} {env : Env} {acc : Value} {e : Expr} {d : Nat} {g : Comprehension} {Q Q' : Shared → Prop} {s : Shared} (h : ∀ s', Q s' → Q' s') (k : Deep prog w A env acc e d g Q s) : Deep prog w A env acc e d g Q' s := by
  unfold Deep at k ⊢
  refine wpAny_mono k (fun _ _ z => wpAny_mono z (fun _ _ q => codeAny_mono q fun r s' hr => ?_) fun _ _ z => z) fun _ _ z => z
  cases r with
  | ok f => exact h _ hr
  | error x => exact hr
def Nested : List Cl → Prop
  | c :: c1 :: cs => (∀ i ∈ c1.vs, i ∈ c.vs) ∧ Nested (c1 :: cs)
  | _ => True
theorem loop_ok {B : Cx} {e : Expr} {gens : List Comprehension} {acc : Value} {em : L2.St → Hp → (Hp → Prop) → Prop} (hc : B.calm = true) (b1 : B.xe = NoE) (K : Kd e gens) (he : EmOk B acc e em) :
    ∀ (cs : List Cl) (c : Cl) (d : Nat), gens.drop d = (c :: cs).map Cl.c → Nested (c :: cs) → (∀ x ∈ c :: cs, ClOk B x) → (∀ x ∈ cs, PI B x.tg x.iter x.wi) → ∀ (pins : List (Addr × Obj)) (s : Shared) (σ : L2.St) (H : Hp) (it : Addr) (fp : List Addr) (tn : Nat → Heap → Prop) (J : It) (End : Hp → Prop) (R : Result → Shared → Prop),
      Turn B.prog B.w B.K c.tg J fp it tn → Inv B pins (wipe σ c.vs) H s → tn 0 s.heap → (∀ b ∈ fp, ∀ H', H' b = none → FpOk B pins H' b) → (∀ b ∈ fp, H b = none) → Lp J c.g c.tt c.vs (Rest em cs) σ H End →
      (∀ s' H', Inv B pins (wipe σ c.vs) H' s' → End H' → R (.ok .next) s') → codeAny (model B.prog B.w) B.A (.compLoop e d (.ref it) acc B.env) R s := by
  intro cs
  induction cs with
  | nil =>
    intro c d hdr _ hok _ pins s σ H it fp tn J End R T I st ffp nfp lp hR
    have k := hok c (List.mem_singleton.mpr rfl)
    have g0 : gens[d]? = some ⟨c.tg, c.iter, c.ifs, 0⟩ := by
      have q := congrArg (·[0]?) hdr
      rw [List.getElem?_drop] at q
      exact q
    have g1 : gens[d + 1]? = none := by
      have q := congrArg (·[1]?) hdr
      rw [List.getElem?_drop] at q
      exact q
    obtain ⟨W, ⟨m0, w0⟩, turn⟩ := lp
    refine loop_last K g0 g1 (fun n s' => ∃ i H', Inv B pins (wipe σ c.vs) H' s' ∧ tn i s'.heap ∧ (∀ b ∈ fp, H' b = none) ∧ W i n H') (fun n s' h => ?_) m0 ⟨0, H, I, st, nfp, w0⟩
    exact turn_ok (Dp := Emit B.prog B.w B.A B.env acc e) hc b1 k.pg k.pt T ffp (fun h k => emit_mono h k) (fun pins' s σ2 H3 Nx I q => emit_mono (Q := fun s' => ∃ H', Inv B pins' σ2 H' s' ∧ Nx H') (fun s' h => by obtain ⟨H', I', nx⟩ := h; exact ⟨σ2, H', I', wipe_knows σ2 c.vs, nx⟩) (he pins' s σ2 H3 Nx I q)) turn hR n s' h
  | cons c1 cs ih =>
    intro c d hdr nst hok hpi pins s σ H it fp tn J End R T I st ffp nfp lp hR
    have k := hok c List.mem_cons_self
    have k1 := hok c1 (List.mem_cons_of_mem _ List.mem_cons_self)
    have g0 : gens[d]? = some ⟨c.tg, c.iter, c.ifs, 0⟩ := by
      have q := congrArg (·[0]?) hdr
      rw [List.getElem?_drop] at q
      exact q
    have g1 : gens[d + 1]? = some ⟨c1.tg, c1.iter, c1.ifs, 0⟩ := by
      have q := congrArg (·[1]?) hdr
      rw [List.getElem?_drop] at q
      exact q
    have dr1 : gens.drop (d + 1) = (c1 :: cs).map Cl.c := by
      rw [← List.tail_drop, hdr]
      rfl
    obtain ⟨W, ⟨m0, w0⟩, turn⟩ := lp
    refine loop_more K g0 g1 k1.hs (fun n s' => ∃ i H', Inv B pins (wipe σ c.vs) H' s' ∧ tn i s'.heap ∧ (∀ b ∈ fp, H' b = none) ∧ W i n H') (fun n s' h => ?_) m0 ⟨0, H, I, st, nfp, w0⟩
    refine turn_ok (Dp := Deep B.prog B.w B.A B.env acc e d ⟨c1.tg, c1.iter, c1.ifs, 0⟩) hc b1 k.pg k.pt T ffp (fun h k => deep_mono h k) (fun pins' s9 σ8 H9 Nx I9 q9 => ?_) turn hR n s' h
    unfold Deep
    have run := (hpi c1 List.mem_cons_self).run pins' s9 σ8 H9 _ I9 q9
    rw [b1] at run
    refine thnF run fun xv s10 hx => thnF hx fun itv s11 h11 => ?_
    obtain ⟨it1, fp1, tn1, J1, H11, e1, I11, T1, st11, f11, lp1⟩ := h11
    subst e1
    have lp1' := ih c1 (d + 1) dr1 nst.2 (fun x hx => hok x (List.mem_cons_of_mem _ hx)) (fun x hx => hpi x (List.mem_cons_of_mem _ hx)) pins' s11 σ8 H11 it1 fp1 tn1 J1 Nx
      (fun r s' => match r with
        | .ok _ => ∃ σ9 H', Inv B pins' σ9 H' s' ∧ Knows (wipe σ8 c.vs) σ9 ∧ Nx H'
        | .error _ => False) T1 (I11.weak (wipe_length _ _) fun j v e => (wipe_some e).1) st11 (fun b hb H' hn => ⟨hn, (f11 b hb).2⟩) (fun b hb => (f11 b hb).1) lp1
      (fun s' H' I' nx => ⟨wipe σ8 c1.vs, H', I', wipe_wipe nst.1, nx⟩)
    exact start_any K g1 lp1' (T1.self B.A 0 _ _ _ st11 lp1')
end
end GC
set_option Elab.async false
set_option linter.all false
set_option maxRecDepth 100000
namespace GC
open PySem PySem.Spec PyProof.Rows L2
section
variable {X : Cx}
/-- a new object of a comprehension: o0 at its address -/
def NewOk (prog : Program) (w : World) (new : Sem Value) (o0 : Addr → HO) : Prop :=
  ∀ (A : Around) (E : Value → Shared → Prop) (s : Shared) (Q : Value → Shared → Prop), (∀ ob : Obj, (∀ H', sysModules < s.heap.objs.size → ObjOk prog w H' (s.heap.push ob) s.heap.objs.size (o0 s.heap.objs.size)) → Q (.ref s.heap.objs.size) { s with heap := s.heap.push ob }) →
    wpAny (model prog w) A new Q E s
/-- the reading: D the new object -/
def tCo (o0 : Addr → HO) (c : Cl) (cs : List Cl) (em : Addr → L2.St → Hp → (Hp → Prop) → Prop) : TE := fun σ H Q => c.wi σ H fun J H1 => ∀ D, H1 D = none → Lp J c.g c.tt c.vs (Rest (em D) cs) σ (upd H1 D (o0 D)) (fun H' => Q (.ref D) H')
abbrev Blk (X : Cx) (scope : Scope) (F : Cx → Prop) : Prop := ∀ (s : Shared) (H : Hp) (C : Addr) (cl : List (Str × Addr)) (fp : List Addr), F (X.blk s H scope (compEnvC scope cl C X.env) fp)
theorem core {pins : List (Addr × Obj)} {s : Shared} {σ : L2.St} {H : Hp} {Q : VK} {e : Expr} {scope : Scope} {own : List (Str × Nat)} {pos' : Pos} {new : Sem Value} {o0 : Addr → HO} {c : Cl} {cs : List Cl} {em : Addr → L2.St → Hp → (Hp → Prop) → Prop} {use : Option (Value → Sem Unit)} {Qf : Value → Shared → Prop}
    (K : Kd e ((c :: cs).map Cl.c)) (hnew : NewOk X.prog X.w new o0) (hc : X.calm = true) (hN : X.N.Nodup) (I : Inv X pins σ H s) (hi : PI X c.tg c.iter c.wi) (ok : BlkOk X.N X.env.scope scope own) (hvs : c.vs = own.map (·.2)) (hs : ∀ x, foldedSetIterable c.iter X.env x = pure x)
    (nst : Nested (c :: cs)) (hok : ∀ x ∈ c :: cs, Blk X scope fun B => ClOk B x) (hpi : ∀ x ∈ cs, Blk X scope fun B => PI B x.tg x.iter x.wi) (hem : ∀ D, Blk X scope fun B => EmOk B (.ref D) e (em D))
    (h : tCo o0 c cs em σ H Q) (hRR : ∀ D C s' m H', Inv X pins σ H' s' → Q (.ref D) H' → s'.heap.Ns C m → FpOk X pins H' C → compPost (model X.prog X.w) X.A X.xe use Qf (.ref D) C (.ok .next) s') :
    wpAny (model X.prog X.w) X.A (comprehension e scope X.env pos' new false (eval c.iter X.env) use) Qf X.xe s := by
  have clE : clausesOf e = c.c :: cs.map Cl.c := by cases K <;> rfl
  have hfree : ∀ y ∈ scope.names, y.2 = .free → ∃ a, X.env.cells.lookup y.1 = some a := fun y hy q => (ok.free y hy q).elim (fun k => I.ok.has _ (.inl k)) fun k => I.ok.has _ (.inr k)
  refine wpAny_comprehension_free (use := use) clE hs (closure_ok hfree) ok.kind (fun y hy q => by rw [ok.uniq y hy, q]) (thn (hi.run pins s σ H _ I h) fun xv s1 hx => thn hx fun itv s2 h2 => ?_)
  obtain ⟨it, fp, tn, J, H2, rfl, I2, T, st2, f2, q⟩ := h2
  refine hnew _ _ s2 _ fun ob hob => newEnv_comp ?_
  generalize hD : s2.heap.objs.size = D
  have hDn : H2 D = none := I2.hok.fresh (Nat.le_of_eq hD)
  have lp := q D hDn
  generalize hs3 : ({ s2 with heap := s2.heap.push ob } : Shared) = s3
  have h3 : s3.heap = s2.heap.push ob := by rw [← hs3]
  have I3 : Inv X pins σ (upd H2 D (o0 D)) s3 := by
    rw [← hs3]
    refine I2.laid (t' := s2.toks) (fun b o z => Heap.get?_push_of_some _ z) (Nat.le_of_eq hD) ?_
    rw [← hD]
    exact hob _ I2.big
  have sz : ∀ b ∈ fp, b < s2.heap.objs.size := fun b hb => let ⟨o, z, _⟩ := T.obj _ _ st2 b hb; Heap.lt_size z
  have f3 : ∀ b ∈ fp, FpOk X pins (upd H2 D (o0 D)) b ∧ b < s3.heap.objs.size := fun b hb => by
    refine ⟨⟨?_, (f2 b hb).2⟩, by rw [h3, Heap.size_push]; exact Nat.lt_succ_of_lt (sz b hb)⟩
    rw [upd_ne (by rw [← hD]; exact Nat.ne_of_lt (sz b hb))]
    exact (f2 b hb).1
  have I4 := block_start I3 ok hN f3
  have aok := fun x hx => hok x hx s3 (upd H2 D (o0 D)) s3.heap.objs.size (cellsFrom (s3.heap.objs.size + 1) scope.names (cloFrom X.env.cells scope.names [])) fp
  have api := fun x hx => hpi x hx s3 (upd H2 D (o0 D)) s3.heap.objs.size (cellsFrom (s3.heap.objs.size + 1) scope.names (cloFrom X.env.cells scope.names [])) fp
  have aem := hem D s3 (upd H2 D (o0 D)) s3.heap.objs.size (cellsFrom (s3.heap.objs.size + 1) scope.names (cloFrom X.env.cells scope.names [])) fp
  have nfp : ∀ b ∈ fp, (upd H2 D (o0 D)) b = none := fun b hb => (f3 b hb).1.1
  have cL : (compEnvC scope (cellsFrom (s3.heap.objs.size + 1) scope.names (cloFrom X.env.cells scope.names [])) s3.heap.objs.size X.env).locals = s3.heap.objs.size := rfl
  have h3z : ({ s2 with heap := s2.heap.push ob } : Shared).heap.objs.size = s3.heap.objs.size := by rw [hs3]
  have goal : codeAny (model X.prog X.w) X.A (.compStart e 0 (.ref it) (.ref D) (compEnvC scope (cellsFrom (s3.heap.objs.size + 1) scope.names (cloFrom X.env.cells scope.names [])) s3.heap.objs.size X.env)) (compPost (model X.prog X.w) X.A X.xe use Qf (.ref D) s3.heap.objs.size)
      { s3 with heap := pushCells (s3.heap.push { cls := .type "dict", data := .dict #[] }) scope.names } := by
    generalize compEnvC scope (cellsFrom (s3.heap.objs.size + 1) scope.names (cloFrom X.env.cells scope.names [])) s3.heap.objs.size X.env = ce at I4 aok api aem cL ⊢
    have st4 : tn 0 (pushCells (s3.heap.push { cls := .type "dict", data := .dict #[] }) scope.names) := T.keep _ _ _ st2 fun b _ o z => pushCells_keeps _ _ _ _ (Heap.get?_push_of_some _ (by rw [h3]; exact Heap.get?_push_of_some _ z))
    generalize hs4 : ({ s3 with heap := pushCells (s3.heap.push { cls := .type "dict", data := .dict #[] }) scope.names } : Shared) = s4 at I4 ⊢
    have st5 : tn 0 s4.heap := by rw [← hs4]; exact st4
    rw [← hvs] at I4
    have stat : ∀ b ∈ fp, ∀ H', H' b = none → FpOk (X.blk s3 (upd H2 D (o0 D)) scope ce fp) [] H' b := fun b hb H' hn => ⟨hn, (I4.ok.exf b hb).1, I4.ok.exfs b hb, .inl hb, fun x a z => (I4.ok.exf b hb).2 x a z, fun p hp => absurd (show p ∈ ([] : List (Addr × Obj)) ++ [] from hp) (by simp)⟩
    have loop := loop_ok (B := X.blk s3 (upd H2 D (o0 D)) scope ce fp) (acc := .ref D) hc rfl K aem cs c 0 rfl nst aok api [] s4 σ _ it fp tn J _ (compPost (model X.prog X.w) X.A X.xe use Qf (.ref D) s3.heap.objs.size) T I4 st5 stat nfp lp fun s6 H5 I6 qq => by
      have I7 : Inv X pins σ H5 s6 := I3.call' (ch := fp) I6.os I6.base I6.hok I6.bare fun b hb => ⟨(f3 b hb).1.2.2.2.1, (f3 b hb).1.2.1, (f3 b hb).1.2.2.2.2.1, (f3 b hb).1.2.2.2.2.2⟩
      have nC : H5 ce.locals = none := I6.free
      rw [cL] at nC
      obtain ⟨m, hn, _⟩ := I6.loc
      have hn : s6.heap.Ns ce.locals m := hn
      rw [cL] at hn
      exact hRR D s3.heap.objs.size s6 m H5 I7 qq hn (I3.fpOk (Nat.le_refl _) nC)
    exact start_any K rfl loop (T.self X.A 0 _ _ _ st5 loop)
  subst hs3 hD
  exact goal
theorem new_list {P : Program} {w : World} : NewOk P w (newList []) fun _ => .lst [] := fun A E s Q h =>
  wpAny_newObj_type (h _ fun H' _ => ⟨Nat.zero_le _, [], 0, .nil, Heap.get?_push_size _ rfl⟩) (by show 0 ≤ sizeLine; decide)
theorem new_dT {P : Program} {w : World} : NewOk P w newDict fun _ => .dT [] := fun A E s Q h => wpAny_newObj_type (h _ fun H' hb => dt_empty s.heap hb)
theorem new_dK {P : Program} {w : World} : NewOk P w newDict fun _ => .dK [] := fun A E s Q h => wpAny_newObj_type (h _ fun H' hb => dk_empty s.heap hb)
/-- the end of a comprehension as a value -/
theorem back {pins : List (Addr × Obj)} {σ : L2.St} {Q : VK} (D C : Addr) (s' : Shared) (m : _) (H' : Hp) (I' : Inv X pins σ H' s') (q : Q (.ref D) H') (hn : s'.heap.Ns C m) (f : FpOk X pins H' C) :
    compPost (model X.prog X.w) X.A X.xe none (EP X pins σ Q) (.ref D) C (.ok .next) s' := by
  obtain ⟨f0, f1, f2, f3, f4, f5⟩ := f
  exact ⟨m, hn, fun h'' sb => ⟨.ref D, H', I'.turned (t' := s'.toks) (fun b o hb e => (sb.2 b hb).trans e) f0 f1 f3 f4 f5, rfl, q⟩⟩
/-- an item goes to the new list -/
def emL (te : TE) (D : Addr) : L2.St → Hp → (Hp → Prop) → Prop := fun σ H Nx => te σ H fun y H1 => ∃ acc, H1 D = some (.lst acc) ∧ acc.length < sizeLine ∧ Nx (upd H1 D (.lst (acc ++ [y])))
/-- an entry goes to the new dict with tuple keys -/
def emT (tk tv : TE) (D : Addr) : L2.St → Hp → (Hp → Prop) → Prop := fun σ H Nx => tk σ H fun y H1 => tv σ H1 fun z H2 => ∃ kvs k b, y = .ref b ∧ H2 b = some (.tup (k.map kV)) ∧ H2 D = some (.dT kvs) ∧ kvs.length < sizeLine ∧ Nx (upd H2 D (.dT (putK kvs k z)))
/-- one whose keys are ints and texts -/
def emK (tk tv : TE) (D : Addr) : L2.St → Hp → (Hp → Prop) → Prop := fun σ H Nx => tk σ H fun y H1 => tv σ H1 fun z H2 => ∃ kvs k, y = kV k ∧ H2 D = some (.dK kvs) ∧ kvs.length < sizeLine ∧ Nx (upd H2 D (.dK (putK kvs k z)))
theorem d_setT {pins : List (Addr × Obj)} {σ : L2.St} {H : Hp} {s : Shared} {E : Value → Shared → Prop} {D b : Addr} {kvs : List (List Key × V)} {k : List Key} {v : V} {r : Value} {Q : Unit → Shared → Prop} (hu : X.A.units < cLine) (I : Inv X pins σ H s) (hD : H D = some (.dT kvs)) (hb : H b = some (.tup (k.map kV)))
    (hz : kvs.length < sizeLine) (rv : RelV v r) (h : ∀ s', Inv X pins σ (upd H D (.dT (putK kvs k v))) s' → Q () s') : wpAny (model X.prog X.w) X.A (dictSet D (.ref b) r) Q E s := by
  obtain ⟨z, hd, xs, rel, dd⟩ := dt_of I.hok hD
  have hzx : xs.length ≤ sizeLine := by rw [← Paired.length rel]; exact z
  have hl : (putK kvs k v).length ≤ sizeLine := Nat.le_trans (length_putK kvs k v) hz
  refine wpAny_dictSet_heap (hsz := hzx) (knd := tupleKind (mixKind X.prog X.w)) hu (key_of I.hok hb) dd fun h' dd' sb => h _ ?_
  obtain ⟨o, es, ep, ho, e1, e2, e3, _, e4⟩ := dd'
  exact d_write I (by rw [hD]; exact True.intro) sb ⟨o, ho⟩ ⟨hl, hd, _, (rel.put k hb rv).keeps fun a ys q => (by rw [upd_ne (ne_of q hD (fun z => nomatch z))]; exact q), o, es, ep, ho, e1, e2, e3, e4⟩
theorem emL_ok {B : Cx} {D : Addr} {elt : Expr} {gens : List Comprehension} {scope : Scope} {pos : Pos} {te : TE} (b1 : B.xe = NoE) (he : PE B elt te) : EmOk B (.ref D) (.ListComp elt gens scope pos) (emL te D) := by
  intro pins s σ H Nx I q
  have r := he.run pins s σ H _ I q
  rw [b1] at r
  refine thnF r fun x s1 h => ?_
  obtain ⟨y, H1, I1, r1, acc, hD, hz, nx⟩ := h
  exact app_ok I1 hD hz r1 fun s2 I2 => ⟨_, I2, nx⟩
theorem emT_ok {B : Cx} {D : Addr} {k v : Expr} {gens : List Comprehension} {scope : Scope} {pos : Pos} {tk tv : TE} (b1 : B.xe = NoE) (hu : B.A.units < cLine) (hk : PE B k tk) (hv : PE B v tv) : EmOk B (.ref D) (.DictComp k v gens scope pos) (emT tk tv D) := by
  intro pins s σ H Nx I q
  have r := hk.run pins s σ H _ I q
  rw [b1] at r
  refine ⟨D, rfl, thnF r fun x s1 h => ?_⟩
  obtain ⟨y, H1, I1, r1, q1⟩ := h
  have r := hv.run pins s1 σ H1 _ I1 q1
  rw [b1] at r
  refine thnF r fun x2 s2 h => ?_
  obtain ⟨z, H2, I2, r2, kvs, kk, b, rfl, hb, hD, hz, nx⟩ := h
  cases r1
  exact d_setT hu I2 hD hb hz r2 fun s3 I3 => ⟨_, I3, nx⟩
theorem emK_ok {B : Cx} {D : Addr} {k v : Expr} {gens : List Comprehension} {scope : Scope} {pos : Pos} {tk tv : TE} (b1 : B.xe = NoE) (hk : PE B k tk) (hv : PE B v tv) : EmOk B (.ref D) (.DictComp k v gens scope pos) (emK tk tv D) := by
  intro pins s σ H Nx I q
  have r := hk.run pins s σ H _ I q
  rw [b1] at r
  refine ⟨D, rfl, thnF r fun x s1 h => ?_⟩
  obtain ⟨y, H1, I1, r1, q1⟩ := h
  have r := hv.run pins s1 σ H1 _ I1 q1
  rw [b1] at r
  refine thnF r fun x2 s2 h => ?_
  obtain ⟨z, H2, I2, r2, kvs, kk, rfl, hD, hz, nx⟩ := h
  exact d_dictSet I2 hD hz r1 r2 fun s3 I3 => ⟨_, I3, nx⟩
end
end GC
set_option Elab.async false
set_option linter.all false
set_option maxRecDepth 100000
namespace GC
open PySem PySem.Spec PyProof.Rows L2
section
variable {X : Cx}
/-- the clauses behind the first -/
structure Cls (X : Cx) (scope : Scope) (gens : List Comprehension) (cs : List Cl) : Prop where
  eq : gens = cs.map Cl.c
  ok : ∀ x ∈ cs, Blk X scope fun B => ClOk B x
  pi : ∀ x ∈ cs, Blk X scope fun B => PI B x.tg x.iter x.wi
theorem cl0 {scope : Scope} : Cls X scope [] [] := ⟨rfl, fun _ h => (by cases h), fun _ h => by cases h⟩
theorem cl1 {scope : Scope} {tg iter : Expr} {ifs : List Expr} {gens : List Comprehension} {cs : List Cl} {wi : TI} {g : TG} {tt : TT} (vs : List Nat) (hi : Blk X scope fun B => PI B tg iter wi) (hg : Blk X scope fun B => PG B tg g) (ht : Blk X scope fun B => PTs B ifs tt) (r : Cls X scope gens cs)
    (hs : ∀ env x, foldedSetIterable iter env x = pure x := by intro _ _; rfl) : Cls X scope (⟨tg, iter, ifs, 0⟩ :: gens) (⟨tg, iter, ifs, wi, g, tt, vs⟩ :: cs) where
  eq := by rw [r.eq]; rfl
  ok := fun x hx => by
    rcases List.mem_cons.mp hx with rfl | hx
    · exact fun s H C cl fp => ⟨hg s H C cl fp, ht s H C cl fp, hs _⟩
    · exact r.ok x hx
  pi := fun x hx => by
    rcases List.mem_cons.mp hx with rfl | hx
    · exact hi
    · exact r.pi x hx
theorem pe_co {e tg iter : Expr} {ifs : List Expr} {gens : List Comprehension} {scope : Scope} {own : List (Str × Nat)} {pos : Pos} {new : Sem Value} {o0 : Addr → HO} {wi : TI} {g : TG} {tt : TT} {cs : List Cl} {em : Addr → L2.St → Hp → (Hp → Prop) → Prop} (hev : eval e X.env = comprehension e scope X.env pos new false (eval iter X.env) none)
    (K : Kd e (⟨tg, iter, ifs, 0⟩ :: gens)) (hnew : NewOk X.prog X.w new o0) (hc : X.calm = true) (hN : X.N.Nodup) (hi : PI X tg iter wi) (ok : BlkOk X.N X.env.scope scope own) (hg : Blk X scope fun B => PG B tg g) (ht : Blk X scope fun B => PTs B ifs tt) (r : Cls X scope gens cs)
    (nst : Nested (⟨tg, iter, ifs, wi, g, tt, own.map (·.2)⟩ :: cs)) (hem : ∀ D, Blk X scope fun B => EmOk B (.ref D) e (em D)) (hs : ∀ env x, foldedSetIterable iter env x = pure x) :
    PE X e (tCo o0 ⟨tg, iter, ifs, wi, g, tt, own.map (·.2)⟩ cs em) := by
  refine ⟨fun pins s σ H Q I h => ?_⟩
  rw [hev]
  have K' : Kd e ((⟨tg, iter, ifs, wi, g, tt, own.map (·.2)⟩ :: cs : List Cl).map Cl.c) := by
    have q := r.eq
    subst q
    exact K
  refine core K' hnew hc hN I hi ok rfl (hs _) nst (fun x hx => ?_) r.pi hem h fun D C s' m H' I' q hn f => back D C s' m H' I' q hn f
  rcases List.mem_cons.mp hx with rfl | hx
  · exact fun s H C cl fp => ⟨hg s H C cl fp, ht s H C cl fp, hs _⟩
  · exact r.ok x hx
/-- a list comprehension of any number of clauses -/
theorem pe_lcs {elt tg iter : Expr} {ifs : List Expr} {gens : List Comprehension} {scope : Scope} {own : List (Str × Nat)} {pos : Pos} {wi : TI} {g : TG} {tt : TT} {te : TE} {cs : List Cl} (hc : X.calm = true) (hN : X.N.Nodup) (hi : PI X tg iter wi) (ok : BlkOk X.N X.env.scope scope own)
    (hg : Blk X scope fun B => PG B tg g) (ht : Blk X scope fun B => PTs B ifs tt) (r : Cls X scope gens cs) (nst : Nested (⟨tg, iter, ifs, wi, g, tt, own.map (·.2)⟩ :: cs)) (he : Blk X scope fun B => PE B elt te) (hs : ∀ env x, foldedSetIterable iter env x = pure x := by intro _ _; rfl) :
    PE X (.ListComp elt (⟨tg, iter, ifs, 0⟩ :: gens) scope pos) (tCo (fun _ => .lst []) ⟨tg, iter, ifs, wi, g, tt, own.map (·.2)⟩ cs (emL te)) :=
  pe_co rfl (.l ..) new_list hc hN hi ok hg ht r nst (fun D s H C cl fp => emL_ok rfl (he s H C cl fp)) hs
/-- a dict comprehension, the keys tuples -/
theorem pe_dcT {k v tg iter : Expr} {ifs : List Expr} {gens : List Comprehension} {scope : Scope} {own : List (Str × Nat)} {pos : Pos} {wi : TI} {g : TG} {tt : TT} {tk tv : TE} {cs : List Cl} (hu : X.A.units < cLine) (hc : X.calm = true) (hN : X.N.Nodup) (hi : PI X tg iter wi) (ok : BlkOk X.N X.env.scope scope own)
    (hg : Blk X scope fun B => PG B tg g) (ht : Blk X scope fun B => PTs B ifs tt) (r : Cls X scope gens cs) (nst : Nested (⟨tg, iter, ifs, wi, g, tt, own.map (·.2)⟩ :: cs)) (hk : Blk X scope fun B => PE B k tk) (hv : Blk X scope fun B => PE B v tv) (hs : ∀ env x, foldedSetIterable iter env x = pure x := by intro _ _; rfl) :
    PE X (.DictComp k v (⟨tg, iter, ifs, 0⟩ :: gens) scope pos) (tCo (fun _ => .dT []) ⟨tg, iter, ifs, wi, g, tt, own.map (·.2)⟩ cs (emT tk tv)) :=
  pe_co rfl (.d ..) new_dT hc hN hi ok hg ht r nst (fun D s H C cl fp => emT_ok rfl hu (hk s H C cl fp) (hv s H C cl fp)) hs
/-- the keys ints and texts -/
theorem pe_dcK {k v tg iter : Expr} {ifs : List Expr} {gens : List Comprehension} {scope : Scope} {own : List (Str × Nat)} {pos : Pos} {wi : TI} {g : TG} {tt : TT} {tk tv : TE} {cs : List Cl} (hc : X.calm = true) (hN : X.N.Nodup) (hi : PI X tg iter wi) (ok : BlkOk X.N X.env.scope scope own)
    (hg : Blk X scope fun B => PG B tg g) (ht : Blk X scope fun B => PTs B ifs tt) (r : Cls X scope gens cs) (nst : Nested (⟨tg, iter, ifs, wi, g, tt, own.map (·.2)⟩ :: cs)) (hk : Blk X scope fun B => PE B k tk) (hv : Blk X scope fun B => PE B v tv) (hs : ∀ env x, foldedSetIterable iter env x = pure x := by intro _ _; rfl) :
    PE X (.DictComp k v (⟨tg, iter, ifs, 0⟩ :: gens) scope pos) (tCo (fun _ => .dK []) ⟨tg, iter, ifs, wi, g, tt, own.map (·.2)⟩ cs (emK tk tv)) :=
  pe_co rfl (.d ..) new_dK hc hN hi ok hg ht r nst (fun D s H C cl fp => emK_ok rfl (hk s H C cl fp) (hv s H C cl fp)) hs
/-- a clause's loop over a walk -/
theorem lp_it {J : It} {n : Nat} {G : Hp → Prop} {Y : Nat → Hp → V → Hp → Prop} (w : Walk J n G Y) {g : TG} {tt : TT} {vs : List Nat} {D : L2.St → Hp → (Hp → Prop) → Prop} {σ : L2.St} {H : Hp} {End : Hp → Prop} (Pv : Nat → Hp → Prop) (h0 : Pv 0 H) (hG : ∀ i H, i ≤ n → Pv i H → G H)
    (hs : ∀ i x H H', i < n → Pv i H → Y i H x H' → g x (wipe σ vs) H' fun σ2 H2 => wipe σ2 vs = wipe σ vs ∧ tt σ2 H2 fun b H3 => if b = true then D σ2 H3 (Pv (i + 1)) else Pv (i + 1) H3) (hd : ∀ H, Pv n H → End H) : Lp J g tt vs D σ H End := by
  refine ⟨fun i m H => m = n - i ∧ i ≤ n ∧ Pv i H, ⟨n, by simp, Nat.zero_le _, h0⟩, ?_⟩
  rintro i m H ⟨rfl, hi, p⟩
  have q := hG i H hi p
  rcases Nat.lt_or_ge i n with hlt | hge
  · exact .inr ⟨w.goes i H hlt q, Pv (i + 1), fun H' p' => ⟨n - (i + 1), by omega, rfl, hlt, p'⟩, fun x H' y => hs i x H H' hlt p (w.yields i H x H' hlt q y)⟩
  · obtain rfl : i = n := by omega
    exact .inl ⟨w.stops H q, hd H p⟩
end
end GC
set_option Elab.async false
set_option linter.all false
set_option maxRecDepth 100000
set_option maxHeartbeats 4000000
set_option Elab.async false
set_option linter.all false
set_option maxRecDepth 100000
set_option maxHeartbeats 2000000
namespace OwQ
open PySem PySem.Spec PySem.W PyProof.Rows L2
/-- a class with an own __eq__ at f, which keeps sp -/
structure EqC (P : Program) (w : World) (K : PySem.W.Frag) (mg : Str → Option Value) (base : Heap) (k : Nat) (C : Addr) (sp : Sp) : Prop where
  ex : ∃ (f : Addr) (fd : FuncData) (ps : List Str), FnOk P w K mg base CX0 k f fd ps sp ∧ findIn K (.ref C) "__eq__" = some (some (.ref f)) ∧ isFn K (.ref f) = true ∧ Binds K fd ps []
  ne : findIn K (.ref C) "__ne__" = some (some (.builtin "object.__ne__"))
  mro : mroIn K C (.type "object") = some true
end OwQ
set_option Elab.async false
set_option linter.all false
set_option maxRecDepth 100000
set_option maxHeartbeats 2000000
set_option Elab.async false
set_option linter.all false
set_option maxRecDepth 100000
set_option maxHeartbeats 2000000
namespace DTp
open PySem PySem.Spec PySem.W PyProof.Rows L2
def mergeT (kvs more : List (List Key × V)) : List (List Key × V) := more.foldl (fun acc kv => putK acc kv.1 kv.2) kvs
theorem length_mergeT : ∀ (more kvs : List (List Key × V)), (mergeT kvs more).length ≤ kvs.length + more.length
  | [], kvs => Nat.le_refl _
  | p :: r, kvs => by
    have a := length_mergeT r (putK kvs p.1 p.2); have b := length_putK kvs p.1 p.2
    show (mergeT (putK kvs p.1 p.2) r).length ≤ _
    rw [List.length_cons]; omega
theorem KT.merge {H : Hp} : ∀ {more : List (List Key × V)} {rs : List (List Key × Addr × Value)} {kvs : List (List Key × V)} {xs : List (List Key × Addr × Value)}, KT H more rs → KT H kvs xs → KT H (mergeT kvs more) (storedAllH xs rs)
  | _, _, _, _, .nil, h => h
  | _, _, _, _, .cons (a := p) (b := q) r t, h => by
    show KT H (mergeT (putK _ p.1 p.2) _) (storedAllH (storedH _ q.1 q.2.1 q.2.2) _)
    refine KT.merge t ?_
    rw [← r.1]
    exact h.put p.1 r.2.1 r.2.2
section
variable {X : Cx}
/-- what the pairs of a list are -/
def PrT (K : PySem.W.Frag) (H : Hp) : List Addr → List (List Key × V) → Prop := Paired fun p kv => ∃ b, SqT K H p [.ref b, kv.2] ∧ H b = some (.tup (kv.1.map kV))
theorem prs_of {pins : List (Addr × Obj)} {σ : L2.St} {H : Hp} {s : Shared} (I : Inv X pins σ H s) : ∀ {ps : List Addr} {kvs : List (List Key × V)}, PrT X.K H ps kvs → ∃ xs : List (List Key × Addr × Value), KT H kvs xs ∧ Paired (fun p (x : List Key × Addr × Value) => s.heap.IsTuple p #[.ref x.2.1, x.2.2]) ps xs
  | _, _, .nil => ⟨[], .nil, .nil⟩
  | _, _, .cons (a := p) (b := kv) r t => by
    obtain ⟨b, hp, hb⟩ := r
    obtain ⟨xs, h1, h2⟩ := prs_of I t
    obtain ⟨its, rv, ht, _⟩ := I.tuple hp
    obtain ⟨u, y, rfl, ru, ry⟩ := vals2 rv
    cases (show u = Value.ref b from ru)
    exact ⟨(kv.1, b, y) :: xs, .cons ⟨rfl, hb, ry⟩ h1, .cons ht h2⟩
theorem kt_is {pins : List (Addr × Obj)} {σ : L2.St} {H : Hp} {s : Shared} (I : Inv X pins σ H s) : ∀ {kvs : List (List Key × V)} {xs : List (List Key × Addr × Value)}, KT H kvs xs → ∀ x ∈ xs, H x.2.1 = some (.tup (x.1.map kV)) ∧ (tupleKind (mixKind X.prog X.w)).is s.heap x.1 x.2.1
  | _, _, .cons r t, x, hx => by
    rcases List.mem_cons.mp hx with rfl | hx
    · have e : H x.2.1 = some (.tup (x.1.map kV)) := by rw [← r.1]; exact r.2.1
      exact ⟨e, key_of I.hok e⟩
    · exact kt_is I t x hx
theorem paired_at {α β : Type} {F : α → β → Prop} : ∀ {xs : List α} {ys : List β}, Paired F xs ys → ∀ {i : Nat} {y : β}, ys[i]? = some y → ∃ x, xs[i]? = some x ∧ F x y
  | _, _, .nil, i, y, h => by cases h
  | _, _, .cons r t, 0, y, h => ⟨_, rfl, by cases h; exact r⟩
  | _, _, .cons r t, i + 1, y, h => paired_at t (i := i) h
theorem is_keeps {P : Program} {w : World} {h h' : Heap} {k : List Key} {b : Addr} (x : (tupleKind (mixKind P w)).is h k b) (e : ∀ o, h.get? b = some o → h'.get? b = some o) : (tupleKind (mixKind P w)).is h' k b := let ⟨o, its, n, ho, r⟩ := x; ⟨o, its, n, e _ ho, r⟩
/-- dict(xs), a list of pairs (tuple, value) -/
def rDictT (K : PySem.W.Frag) : List V → Hp → VK → Prop := fun vs H Q => ∃ (a : Addr) (ps : List Addr) (kvs : List (List Key × V)), vs = [.ref a] ∧ SqL K H a (ps.map V.ref) ∧ PrT K H ps kvs ∧ ∀ p, H p = none → Q (.ref p) (upd H p (.dT (mergeT [] kvs)))
theorem cr_dictT (hc : X.calm = true) (hu : X.A.units + 2 < cLine) : CallR X (.type "dict") (rDictT X.K) := by
  intro pins s σ H vs us Q I r h
  obtain ⟨a, ps, kvs, rfl, hq, hp, q⟩ := h
  rw [Vals.ref1 r]
  obtain ⟨its, rv, pl, hz⟩ := I.list hq
  have ei := refs_at rv
  subst ei
  rw [List.length_map] at hz
  obtain ⟨xs, kt, tp⟩ := prs_of I hp
  have l1 : kvs.length = xs.length := Paired.length kt
  have l2 : ps.length = xs.length := Paired.length tp
  let prs : List (Value × Value) := xs.map fun x => (Value.ref x.2.1, x.2.2)
  have lp : prs.length = xs.length := List.length_map _
  obtain ⟨o, n, ho, hcl, hd, hdat⟩ := pl
  have PA := PairArg.list (prog := X.prog) (w := X.w) a (ps.map Value.ref).toArray (fun j => ps.getD j 0) prs
  have at_ : ∀ j k v, prs[j]? = some (k, v) → ∃ (x : List Key × Addr × Value) (p : Addr), xs[j]? = some x ∧ ps[j]? = some p ∧ k = Value.ref x.2.1 ∧ v = x.2.2 ∧ s.heap.IsTuple p #[Value.ref x.2.1, x.2.2] := fun j k v e => by
    rw [List.getElem?_map] at e
    cases ex : xs[j]? with
    | none => rw [ex] at e; cases e
    | some x =>
      rw [ex] at e
      have e : (Value.ref x.2.1, x.2.2) = (k, v) := Option.some.inj e
      obtain ⟨p, hp1, hp2⟩ := paired_at tp ex
      exact ⟨x, p, ex, hp1, (congrArg Prod.fst e).symm, (congrArg Prod.snd e).symm, hp2⟩
  have ok : PlainSeq "list" s.heap a (ps.map Value.ref).toArray ∧ PairItems s.heap (ps.map Value.ref).toArray (fun j => ps.getD j 0) prs := by
    refine ⟨⟨o, n, ho, hcl, hd, hdat⟩, by rw [List.size_toArray, List.length_map, lp]; exact l2, fun j k v e => ?_⟩
    obtain ⟨x, p, e1, e2, rfl, rfl, e5⟩ := at_ j k v e
    have eg : ps.getD j 0 = p := by rw [List.getD_eq_getElem?_getD, e2]; rfl
    refine ⟨?_, ?_⟩
    · show (ps.map Value.ref).toArray[j]? = some (.ref (ps.getD j 0))
      rw [eg, List.getElem?_toArray, List.getElem?_map, e2]; rfl
    · show PairAt s.heap (ps.getD j 0) _ _
      rw [eg]; exact .inl e5
  refine call_dict_pairsH (knd := tupleKind (mixKind X.prog X.w)) (ps := xs) PA (I.ok.hd hc) hu ok ⟨lp.symm, fun i key v e => ?_⟩ (fun h' hk x hx => ?_) (by rw [lp, ← l2]; exact hz) fun h' tk hd' hk => ?_
  · obtain ⟨x, p, e1, e2, rfl, rfl, e5⟩ := at_ i key v e
    exact ⟨x.1, x.2.1, by rw [e1], rfl⟩
  · have k := (kt_is I kt x hx).2
    exact is_keeps k fun o e => hk _ _ (Nat.ne_of_lt (Heap.lt_size e)) (by simp) e
  · have hm : (s.heap.objs.size == sysModules) = false := beq_eq_false_iff_ne.mpr (Nat.ne_of_gt I.big)
    have hn : H s.heap.objs.size = none := I.hok.fresh (Nat.le_refl _)
    have hlen : (mergeT [] kvs).length ≤ sizeLine := by
      have e := length_mergeT kvs []
      rw [List.length_nil] at e
      omega
    obtain ⟨o', es, ep, h1, h2, h3, h4, _, h5⟩ := hd'
    refine ⟨.ref s.heap.objs.size, upd H s.heap.objs.size (.dT (mergeT [] kvs)), I.laid (t' := tk) (fun b o e => hk b o (by simp) e) (Nat.le_refl _) ⟨hlen, hm, storedAllH [] xs, (KT.merge kt .nil).keeps fun b ys e => ?_, o', es, ep, h1, h2, h3, h4, h5⟩, rfl, q _ hn⟩
    rw [upd_ne (ne_of_none e hn)]
    exact e
abbrev ltT (x y : Str) : Prop := x.cps.toList < y.cps.toList
theorem dataLt_ss (x y x' y' : Str) : dataLt (.tuple [.str x, .str y]) (.tuple [.str x', .str y']) = decide (ltT x x' ∨ (x = x' ∧ ltT y y')) := by
  rw [dataLt_pair (by simp [alike]) (by simp [alike]), dataLt_str, dataLt_str]
  simp only [PyData.eqv, beq_iff_eq]
  have irr : ∀ l : List Nat, ¬ l < l := fun l => List.lt_irrefl l
  by_cases h1 : x = x' <;> by_cases h2 : y = y' <;> simp [h1, h2, irr]
def encS (p : Addr × Str × Str) : PyData := .tuple [.str p.2.1, .str p.2.2]
/-- the order of pairs of texts -/
def leP (p q : Str × Str) : Prop := ¬ (ltT q.1 p.1 ∨ (q.1 = p.1 ∧ ltT q.2 p.2))
theorem leB (p q : Addr × Str × Str) : dataLe false encS p q = true ↔ leP p.2 q.2 := by
  rw [dataLe_eq]
  show (!dataLt (encS q) (encS p)) = true ↔ _
  unfold encS leP
  rw [dataLt_ss, Bool.not_eq_true', decide_eq_false_iff_not]
theorem str_ext {x y : Str} (h : x.cps.toList = y.cps.toList) : x = y := by
  cases x; cases y
  simp only at h
  congr
  exact Array.ext' h
theorem ltT_trans {x y z : Str} (a : ltT x y) (b : ltT y z) : ltT x z := List.lt_trans a b
theorem ltT_tri (x y : Str) : ltT x y ∨ x = y ∨ ltT y x := by
  rcases Classical.em (ltT x y) with h | h
  · exact .inl h
  rcases Classical.em (ltT y x) with k | k
  · exact .inr (.inr k)
  · exact .inr (.inl (str_ext (List.le_antisymm (List.not_lt.mp k) (List.not_lt.mp h))))
theorem ltT_irr (x : Str) : ¬ ltT x x := List.lt_irrefl _
theorem leP_trans {p q r : Str × Str} (a : leP p q) (b : leP q r) : leP p r := by
  unfold leP at *
  rintro (h | ⟨h, k⟩)
  · rcases ltT_tri p.1 q.1 with c | c | c
    · exact b (.inl (ltT_trans h c))
    · exact b (.inl (c ▸ h))
    · exact a (.inl c)
  · rcases ltT_tri p.1 q.1 with c | c | c
    · exact b (.inl (h ▸ c))
    · rcases ltT_tri p.2 q.2 with d | d | d
      · exact b (.inr ⟨h.trans c, ltT_trans k d⟩)
      · exact b (.inr ⟨h.trans c, d ▸ k⟩)
      · exact a (.inr ⟨c.symm, d⟩)
    · exact a (.inl c)
theorem leP_total (p q : Str × Str) : leP p q ∨ leP q p := by
  rcases Classical.em (leP p q) with h | h
  · exact .inl h
  · right
    unfold leP at *
    rintro (k | ⟨k, l⟩)
    · refine h ?_
      rintro (m | ⟨m, _⟩)
      · exact ltT_irr _ (ltT_trans k m)
      · rw [m] at k; exact ltT_irr _ k
    · refine h ?_
      rintro (m | ⟨m, n⟩)
      · rw [k] at m; exact ltT_irr _ m
      · exact ltT_irr _ (ltT_trans l n)
def keyP (p : Str × Str) : List Key := [.inr p.1, .inr p.2]
def rSortT : List V → Hp → VK → Prop := fun vs H Q => ∃ (a : Addr) (kvs : List (List Key × V)) (ps : List (Str × Str)), vs = [.ref a] ∧ Rd H a (.dT kvs) ∧ kvs.map (·.1) = ps.map keyP ∧ ps.length ≤ 1000 ∧
  ∀ (qs : List (Addr × Str × Str)) (p : Addr), (qs.map (·.2)).Perm ps → (qs.map (·.2)).Pairwise leP → (∀ q ∈ qs, H q.1 = some (.tup [.str q.2.1, .str q.2.2])) → H p = none → Q (.ref p) (upd H p (.lst (qs.map fun q => V.ref q.1)))
theorem each_of {α β : Type} {R : α → β → Prop} (f : β → α) (h : ∀ b, R (f b) b → R (f b) b) : ∀ (bs : List β), (∀ b ∈ bs, R (f b) b) → EachIs R (bs.map f) bs
  | [], _ => .nil
  | b :: bs, k => .cons (k b List.mem_cons_self) (each_of f h bs fun c hc => k c (List.mem_cons_of_mem _ hc))
theorem each_eq {β : Type} (f : β → Value) : ∀ {as : List Value} {bs : List β}, EachIs (fun v b => v = f b) as bs → as = bs.map f
  | _, _, .nil => rfl
  | _, _, .cons h t => by rw [List.map_cons, ← each_eq f t, h]
theorem vals_qs : ∀ qs : List (Addr × Str × Str), Vals (qs.map fun q => V.ref q.1) (qs.map fun b => Value.ref b.1)
  | [] => .nil
  | q :: qs => .cons (show RelV (V.ref q.1) (Value.ref q.1) from rfl) (vals_qs qs)
theorem cr_sortT (hc : X.calm = true) (hu : X.A.units + 64 < cLine) : CallR X (.builtin "sorted") rSortT := by
  intro pins s σ H vs us Q I r h
  obtain ⟨a, kvs, ps, rfl, ha, hks, few, q⟩ := h
  rw [Vals.ref1 r]
  obtain ⟨z, lo, xs, rel, dd⟩ := dt_rd I.hok ha
  obtain ⟨o, es, ep, ho, hex, hdat, hes, his, hnd⟩ := id dd
  have l1 : kvs.length = xs.length := Paired.length rel
  have l2 : kvs.length = ps.length := by
    have e := congrArg List.length hks
    rwa [List.length_map, List.length_map] at e
  have le : es.size = xs.length := size_of_entries hes
  -- the keys with their places
  let bs : List (Addr × Str × Str) := (xs.map fun x => x.2.1).zip ps
  have lb : bs.length = ps.length := by show (List.zip _ _).length = _; rw [List.length_zip, List.length_map]; omega
  have bat : ∀ (i : Nat) (b : Addr × Str × Str), bs[i]? = some b → ∃ x, xs[i]? = some x ∧ x.2.1 = b.1 ∧ ps[i]? = some b.2 ∧ H b.1 = some (.tup [.str b.2.1, .str b.2.2]) := fun i b e => by
    obtain ⟨e1, e2⟩ := List.getElem?_zip_eq_some.mp e
    rw [List.getElem?_map] at e1
    cases ex : xs[i]? with
    | none => rw [ex] at e1; cases e1
    | some x =>
      rw [ex] at e1
      have e1 : x.2.1 = b.1 := Option.some.inj e1
      obtain ⟨kv, hk, r1, r2, r3⟩ := paired_at rel ex
      have ek : (kvs.map (·.1))[i]? = some kv.1 := by rw [List.getElem?_map, hk]; rfl
      rw [hks, List.getElem?_map, e2] at ek
      have ek : keyP b.2 = kv.1 := Option.some.inj ek
      refine ⟨x, rfl, e1, e2, ?_⟩
      rw [← ek, e1] at r2
      exact r2
  have bmem : ∀ b ∈ bs, H b.1 = some (.tup [.str b.2.1, .str b.2.2]) := fun b hb => by
    obtain ⟨i, hi⟩ := List.mem_iff_getElem?.mp hb
    obtain ⟨_, _, _, _, h⟩ := bat i b hi
    exact h
  refine Calls.call_function_entry PyProof.Rows.kind_sorted PyProof.Rows.plain_sorted PyProof.Rows.entry_sorted (PyProof.Rows.args_sorted1 _) ?_
  unfold Builtin.«sorted»
  refine wpAny_bind (m := checkCount "sorted" 1 1 _) (wpAny_pure (wpAny_bind (kdu_collect (A := X.A.in1) (KdlSrc.rawDict (es := es) (ep := ep) lo) (I.ok.hd hc) ⟨o, ho, hex, hdat⟩ (by rw [le, ← l1]; exact z) fun h' tk acc hk hacc => ?_)))
  have eacc : acc.toList = bs.map fun b => Value.ref b.1 := by
    apply List.ext_getElem?
    intro i
    rw [Array.getElem?_toList, List.getElem?_map]
    cases e : acc[i]? with
    | none =>
      have h1 : acc.size ≤ i := Array.getElem?_eq_none_iff.mp e
      rw [List.getElem?_eq_none (by rw [lb, ← l2, l1, ← le, ← hacc.1]; exact h1)]
      rfl
    | some v =>
      obtain ⟨hi, hv⟩ := hacc.2 i v e
      have hib : i < bs.length := by rw [lb, ← l2, l1, ← le]; exact hi
      rw [List.getElem?_eq_getElem hib]
      obtain ⟨x, hx, e1, _, _⟩ := bat i bs[i] (List.getElem?_eq_getElem hib)
      have en := entry_at hes i
      rw [hx, Array.getElem?_eq_getElem hi] at en
      have en := Option.some.inj en
      rw [hv, en]
      show some (Value.ref x.2.1) = some (Value.ref bs[i].1)
      rw [e1]
  have I1 : Inv X pins σ H { s with heap := h', toks := tk } := I.kept (t' := tk) hk
  refine wpAny_bind (wpAny_newList ?_ (by rw [eacc, List.length_map, lb, sizeLine_eq]; omega))
  show wpAny _ _ _ _ _ { s with heap := h'.push (seqObj "list" acc.toList.toArray 0), toks := tk }
  have hoL : (h'.push (seqObj "list" acc.toList.toArray 0)).get? h'.objs.size = some (seqObj "list" acc.toList.toArray 0) := Heap.get?_push_size _ rfl
  have I2 : Inv X pins σ H { s with heap := h'.push (seqObj "list" acc.toList.toArray 0), toks := tk } := I1.kept (t' := tk) fun b u e => Heap.get?_push_of_some _ e
  have rd : ∀ b ∈ bs, ∃ as, Reads (h'.push (seqObj "list" acc.toList.toArray 0)) (.ref b.1) (encS b) as ∧ h'.objs.size ∉ as := fun b hb => by
    obtain ⟨its, rv, ⟨ot, hot, hct, nt, hdt⟩, _⟩ := I2.tuple (SqT.of (bmem b hb))
    obtain ⟨u, y, rfl, ⟨t1, rfl⟩, ⟨t2, rfl⟩⟩ := vals2 rv
    exact ⟨_, .tuple hot hct hdt (.cons (.str _ _) (.cons (.str _ _) .nil)), by simp⟩
  refine wpAny_bind (wpAny_holding (list_sort_data (s := { s with heap := h'.push (seqObj "list" acc.toList.toArray 0), toks := tk }) (R := fun v b => v = .ref b.1 ∧ b ∈ bs) (bs := bs) (enc := encS) hoL ?_ ?_ (.of fun b b' => by simp [encS, alike, alikeAll]) (.tuples fun b => ⟨_, _, rfl⟩) (by rw [lb, sizeLine_eq]; omega) (fun b hb => ?_) fun out ho' hs => ?_))
  · rw [eacc]; exact each_of _ (fun _ h => h) bs fun b hb => ⟨rfl, hb⟩
  · have rd' := each_of (R := fun v b => ∃ as, Reads (h'.push (seqObj "list" acc.toList.toArray 0)) v (encS b) as ∧ h'.objs.size ∉ as) (fun b : Addr × Str × Str => Value.ref b.1) (fun _ h => h) bs rd
    rw [← eacc] at rd'
    exact rd'
  · show X.A.in1.units + 1 + (encS b).depth < cLine
    have e : (encS b).depth ≤ 2 := by simp [encS, PyData.depth, PyData.depthAll]
    have e2 : X.A.in1.units = X.A.units + 1 := rfl
    omega
  · let qs := bs.mergeSort (dataLe false encS)
    have pq : qs.Perm bs := List.mergeSort_perm _ _
    have eo : out = qs.map fun b => Value.ref b.1 := each_eq _ (hs.mono fun v b h => h.1)
    have p2 : (qs.map (·.2)).Perm ps := by
      have e := pq.map (·.2)
      have m2 : bs.map (·.2) = ps := List.map_snd_zip (by rw [List.length_map]; omega)
      rw [m2] at e
      exact e
    have so : (qs.map (·.2)).Pairwise leP := by
      rw [List.pairwise_map]
      have w := List.pairwise_mergeSort (le := dataLe false encS) (fun a b c h k => (leB a c).mpr (leP_trans ((leB a b).mp h) ((leB b c).mp k))) (fun a b => by
        rcases leP_total a.2 b.2 with h | h
        · rw [(leB a b).mpr h]; rfl
        · rw [(leB b a).mpr h, Bool.or_true]) bs
      exact w.imp fun h => (leB _ _).mp h
    have hn : H h'.objs.size = none := I1.hok.fresh (Nat.le_refl _)
    obtain ⟨c, hcc⟩ := sortedHeap_at (vs := acc.toList) (out := out.toArray) hoL
    have lq : (qs.map fun q => V.ref q.1).length ≤ sizeLine := by rw [List.length_map, pq.length_eq, lb, sizeLine_eq]; omega
    refine wpAny_pure ⟨_, rfl, ?_⟩
    refine ⟨.ref h'.objs.size, upd H h'.objs.size (.lst (qs.map fun q => V.ref q.1)), I1.laid (o := .lst (qs.map fun q => V.ref q.1)) (t' := tk) (h' := sortedHeap (h'.push (seqObj "list" acc.toList.toArray 0)) h'.objs.size acc.toList out.toArray) (fun b u e => ?_) (Nat.le_refl _) ⟨lq, out, c, ?_, hcc⟩, rfl, q qs h'.objs.size p2 so (fun q' hq' => bmem q' (pq.mem_iff.mp hq')) hn⟩
    · have hlt := Heap.lt_size e
      rw [sortedHeap_old (Nat.ne_of_lt hlt) (by rw [Heap.size_push]; exact Nat.lt_succ_of_lt hlt)]
      exact Heap.get?_push_of_some _ e
    · rw [eo]
      exact vals_qs qs
end
end DTp
set_option Elab.async false
set_option linter.all false
set_option maxRecDepth 100000
set_option maxHeartbeats 2000000
namespace DTp
open PySem PySem.Spec PySem.W PyProof.Rows L2
def eqTx : Value → Value → Bool
  | .str x _, .str y _ => decide (x = y)
  | _, _ => false
/-- the entry's value is that of the other dict -/
def hitT (kb : List (List Key × Addr × Value)) (x : List Key × Addr × Value) : Bool := match atKey kb x.1 with
  | some p => eqTx x.2.2 p.2
  | none => false
section
variable {prog : Program} {w : World} {A : Around} {E : Value → Shared → Prop} {s : Shared}
abbrev TkK (prog : Program) (w : World) := tupleKind (mixKind prog w)
theorem range_next {n i x : Nat} {rest : List Nat} (e : x :: rest = List.range' i (n - i)) : x = i ∧ i < n ∧ rest = List.range' (i + 1) (n - (i + 1)) := by
  rcases Nat.lt_or_ge i n with h | h
  · have z : n - i = n - (i + 1) + 1 := by omega
    rw [z, List.range'_succ] at e
    injection e with e1 e2
    exact ⟨e1, h, e2⟩
  · rw [Nat.sub_eq_zero_of_le h] at e
    cases e
theorem same_dT {nm : String} {a b : Addr} {ka kb : List (List Key × Addr × Value)} {Q : Bool → Shared → Prop} (hu : A.units < cLine) (ha : (a == sysModules) = false) (hb : (b == sysModules) = false) (da : s.heap.DictOfH (TkK prog w) a ka) (db : s.heap.DictOfH (TkK prog w) b kb)
    (ta : ∀ x ∈ ka, ∃ y t, x.2.2 = .str y t) (tb : ∀ x ∈ kb, ∃ y t, x.2.2 = .str y t) (h : Q (ka.length == kb.length && ka.all (hitT kb)) s) : wpAny (model prog w) A (Builtin.Dict.samePairs nm a b) Q E s := by
  obtain ⟨oa, es, ep, hoa, _, hda, hea, hia, hna⟩ := da
  obtain ⟨ob, es', ep', hob, _, hdb, heb, hib, hnb⟩ := db
  have la : es.size = ka.length := size_of_entries hea
  have lb : es'.size = kb.length := size_of_entries heb
  unfold Builtin.Dict.samePairs Builtin.Dict.showsAll
  rw [if_neg (show ¬ (a == sysModules) = true by rw [ha]; exact Bool.false_ne_true), if_neg (show ¬ (b == sysModules) = true by rw [hb]; exact Bool.false_ne_true)]
  refine wpAny_bind (wpAny_pure (wpAny_bind (wpAny_pure (wpAny_bind (wpAny_dictEntries hoa hda ?_)))))
  dsimp only
  refine wpAny_bind (wpAny_dictEntries hob hdb ?_)
  rcases Classical.em (ka.length = kb.length) with hsz | hsz
  · have hz : es.size = es'.size := by rw [la, lb, hsz]
    rw [if_neg (by rw [hz]; simp)]
    have h' : Q (ka.all (hitT kb)) s := by simpa [hsz] using h
    refine wpAny_bind (wpAny_dictEpoch hoa hda (wpAny_bind ?_))
    rw [Std.Legacy.Range.forIn_eq_forIn_range']
    simp only [Std.Legacy.Range.size, Nat.sub_zero, Nat.add_sub_cancel, Nat.div_one]
    refine wpAny_forIn_list _ (fun rest q s' => s' = s ∧ q = (none, ()) ∧ ∃ i, rest = List.range' i (es.size - i) ∧ i ≤ es.size ∧ Q ((ka.drop i).all (hitT kb)) s) _ ?_ ?_ _ _ ⟨rfl, rfl, 0, by simp, Nat.zero_le _, h'⟩
    · rintro x rest q s' ⟨rfl, rfl, i, hr, hi, hq⟩
      obtain ⟨rfl, hlt, hrest⟩ := range_next hr
      refine wpAny_bind (wpAny_dictEntries hoa hda ?_)
      have hk : x < ka.length := la ▸ hlt
      have en : es[x]? = some (entryOfKey (TkK prog w) ka[x]) := by rw [entry_at hea, List.getElem?_eq_getElem hk]; rfl
      have hd : ka.drop x = ka[x] :: ka.drop (x + 1) := List.drop_eq_getElem_cons hk
      rw [hd, List.all_cons] at hq
      rw [en]
      generalize hx : ka[x] = e at hq
      have me : e ∈ ka := hx ▸ List.getElem_mem hk
      obtain ⟨y, ty, ey⟩ := ta e me
      show wpAny _ _ (holding [Value.ref e.2.1, e.2.2] _ >>= _) _ _ _
      refine wpAny_bind (wpAny_holding ?_)
      show wpAny _ _ (dictFind b (.ref e.2.1) ((TkK prog w).hash e.1) >>= _) _ _ _
      refine wpAny_bind (wpAny_dictFind_heap (knd := TkK prog w) hu (hia e me) hob hdb heb hib hnb (fun hno => ?_) fun j p hj => ?_)
      · have hm : hitT kb e = false := by unfold hitT; rw [atKey_none_of_get hno]
        rw [hm, Bool.false_and] at hq
        refine wpAny_pure ?_
        show wpAny _ _ (if (!false) = true then _ else _) _ _ _
        rw [if_pos (by decide)]
        exact wpAny_pure (wpAny_pure hq)
      · refine wpAny_bind (wpAny_dictEntries hob hdb ?_)
        rw [entry_at heb, hj]
        obtain ⟨z, tz, ez⟩ := tb _ (List.mem_of_getElem? hj)
        have hm : hitT kb e = decide (y = z) := by
          unfold hitT
          rw [atKey_of_get hnb hj, ey]
          show eqTx (.str y ty) p.2 = _
          rw [show p.2 = Value.str z tz from ez]
          rfl
        rw [hm] at hq
        show wpAny _ _ (holding [p.2] (eqBool e.2.2 p.2)) _ _ _
        rw [ey, show p.2 = Value.str z tz from ez]
        refine wpAny_holding (wpAny_eqBool_str ?_)
        cases hyz : decide (y = z) with
        | false =>
          rw [hyz, Bool.false_and] at hq
          show wpAny _ _ (if (!false) = true then _ else _) _ _ _
          rw [if_pos (by decide)]
          exact wpAny_pure (wpAny_pure hq)
        | true =>
          rw [hyz, Bool.true_and] at hq
          show wpAny _ _ (if (!true) = true then _ else _) _ _ _
          rw [if_neg (by decide)]
          refine wpAny_bind (wpAny_dictEpoch hoa hda ?_)
          rw [if_neg (by simp)]
          exact wpAny_pure ⟨rfl, rfl, x + 1, hrest, hlt, hq⟩
    · rintro q s' ⟨rfl, rfl, i, hr, hi, hq⟩
      have hin : i = es.size := by
        rcases Nat.lt_or_ge i es.size with k | k
        · have z : es.size - i = es.size - (i + 1) + 1 := by omega
          rw [z, List.range'_succ] at hr
          cases hr
        · omega
      rw [hin, la, List.drop_length] at hq
      exact wpAny_pure hq
  · have hz : ¬ es.size = es'.size := by rw [la, lb]; exact hsz
    rw [if_pos (by simpa using hz)]
    have hf : (ka.length == kb.length) = false := by simpa using hsz
    rw [hf, Bool.false_and] at h
    exact wpAny_bind (wpAny_rule (wpAny_pure h))
theorem eq_dT {a b : Addr} {ka kb : List (List Key × Addr × Value)} {Q : Value → Shared → Prop} (hu : A.units + 1 < cLine) (ha : (a == sysModules) = false) (hb : (b == sysModules) = false) (da : s.heap.DictOfH (TkK prog w) a ka) (db : s.heap.DictOfH (TkK prog w) b kb)
    (ta : ∀ x ∈ ka, ∃ y t, x.2.2 = .str y t) (tb : ∀ x ∈ kb, ∃ y t, x.2.2 = .str y t) (h : Q (.bool (ka.length == kb.length && ka.all (hitT kb))) s) : wpAny (model prog w) A (compareOp .Eq (.ref a) (.ref b)) Q E s := by
  refine wpAny_richCompare_same_room (op := .Eq) da.typeIs db.typeIs PySem.F.slot_dict_eq (wpAny_call_entry PySem.F.slot_dict_eq da.typeIs PySem.F.entry_dict_eq ?_ (PySem.F.args_dict_eq_2 _ _)) (by omega)
  refine wpAny_bind (m := Builtin.Dict.dictSlotArgs "__eq__" ⟨[.ref a, .ref b], []⟩) ?_
  unfold Builtin.Dict.dictSlotArgs
  refine wpAny_bind (wpAny_notOrdered_dict da.typeIs (wpAny_pure ?_))
  refine wpAny_bind (wpAny_isInstance (T := "dict") db.typeIs PySem.F.sub_dict_dict ?_)
  simp only [Bool.not_true, Bool.false_eq_true, if_false]
  refine wpAny_bind (wpAny_pure (wpAny_bind (wpAny_pure (wpAny_bind (same_dT hu ha hb da db ta tb (wpAny_pure ⟨_, rfl, ?_, ?_⟩))))))
  · exact fun x => nomatch x
  · simpa using h
end
/-- whether two dicts with texts as values are the same, whatever the order -/
def sameT (ks ls : List (List Key × V)) : Bool := ks.length == ls.length && ks.all fun p => decide (valV ls p.1 = some p.2)
def TxV (kvs : List (List Key × V)) : Prop := ∀ p ∈ kvs, ∃ x, p.2 = .str x
section
variable {X : Cx}
theorem kt_txt {H : Hp} : ∀ {kvs : List (List Key × V)} {xs : List (List Key × Addr × Value)}, KT H kvs xs → TxV kvs → ∀ x ∈ xs, ∃ y t, x.2.2 = .str y t
  | _, _, .cons (a := p) r t, h, x, hx => by
    rcases List.mem_cons.mp hx with rfl | hx
    · obtain ⟨y, e⟩ := h p List.mem_cons_self
      have q := r.2.2
      rw [e] at q
      obtain ⟨t, e⟩ := q
      exact ⟨y, t, e⟩
    · exact kt_txt t (fun q hq => h q (List.mem_cons_of_mem _ hq)) x hx
theorem hit_all {H : Hp} {ls : List (List Key × V)} {ys : List (List Key × Addr × Value)} (rl : KT H ls ys) (hl : TxV ls) : ∀ {ks : List (List Key × V)} {xs : List (List Key × Addr × Value)}, KT H ks xs → TxV ks → xs.all (hitT ys) = ks.all fun p => decide (valV ls p.1 = some p.2)
  | _, _, .nil, _ => rfl
  | _, _, .cons (a := p) (b := q) r t, h => by
    rw [List.all_cons, List.all_cons, hit_all rl hl t fun q hq => h q (List.mem_cons_of_mem _ hq)]
    congr 1
    obtain ⟨x, ex⟩ := h p List.mem_cons_self
    have r2 := r.2.2
    rw [ex] at r2
    obtain ⟨tx, eq⟩ := r2
    have rv := rl.val p.1
    unfold hitT
    rw [← r.1, ex]
    cases ea : atKey ys p.1 with
    | none =>
      rw [ea] at rv
      cases ev : valV ls p.1 with
      | none => simp
      | some v => rw [ev] at rv; exact rv.elim
    | some a =>
      rw [ea] at rv
      cases ev : valV ls p.1 with
      | none => rw [ev] at rv; exact rv.elim
      | some v =>
        rw [ev] at rv
        have mv : ∃ p' ∈ ls, p'.2 = v := by
          unfold valV at ev
          obtain ⟨p', h1, h2⟩ := Option.map_eq_some_iff.mp ev
          exact ⟨p', List.mem_of_find?_eq_some h1, h2⟩
        obtain ⟨p', m1, m2⟩ := mv
        obtain ⟨y, ey⟩ := hl p' m1
        rw [m2] at ey
        subst ey
        obtain ⟨ty, et⟩ := rv
        have et : a.2 = Value.str y ty := et
        show eqTx q.2.2 a.2 = _
        rw [eq, et]
        show decide (x = y) = _
        by_cases e : x = y
        · simp [e]
        · have e' : ¬ y = x := fun z => e z.symm
          simp [e, e']
def rEqT (neg : Bool) : R2 := fun x y H Q => ∃ a b ks ls, x = .ref a ∧ y = .ref b ∧ Rd H a (.dT ks) ∧ Rd H b (.dT ls) ∧ TxV ks ∧ TxV ls ∧ Q (.bl (if neg = true then !sameT ks ls else sameT ks ls)) H
theorem sameT_eq {H : Hp} {ks ls : List (List Key × V)} {xs ys : List (List Key × Addr × Value)} (rk : KT H ks xs) (rl : KT H ls ys) (hk : TxV ks) (hl : TxV ls) : (xs.length == ys.length && xs.all (hitT ys)) = sameT ks ls := by
  unfold sameT
  rw [hit_all rl hl rk hk, ← Paired.length rk, ← Paired.length rl]
theorem op_eqT (hu : X.A.units + 1 < cLine) : OpR X (compareOp .Eq) (rEqT false) := by
  intro pins s σ H x y v u Q I rx ry h
  obtain ⟨a, b, ks, ls, rfl, rfl, ea, eb, hk, hl, q⟩ := h
  cases rx; cases ry
  obtain ⟨_, ya, va, ra, da⟩ := dt_rd I.hok ea
  obtain ⟨_, yb, vb, rb, db⟩ := dt_rd I.hok eb
  refine eq_dT hu ya yb da db (kt_txt ra hk) (kt_txt rb hl) ?_
  rw [sameT_eq ra rb hk hl]
  exact ⟨.bl (sameT ks ls), H, I, rfl, q⟩
end
end DTp
set_option Elab.async false
set_option linter.all false
set_option maxRecDepth 100000
set_option maxHeartbeats 2000000
namespace TxS
open PySem PySem.Spec PyProof.Rows L2
/-- the entry of a text -/
def Ent (w : World) (e : Int × Value) (x : Str) : Prop := ∃ t, e = (hashStr w x, Value.str x t)
def TxSet (w : World) (h : Heap) (a : Addr) (L : List Str) : Prop :=
  ∃ (o : Obj) (es : Array (Int × Value)) (ep : Nat) (t : SetTable) (ks : List Str), h.get? a = some o ∧ o.ExactSet ∧ o.data = .set es ep t ∧ Paired (Ent w) es.toList ks ∧ ks.Perm L ∧ L.Nodup ∧ es.size < scanBound ∧ t.fits es.size = true ∧
    Ris t.place.toList ∧ (w.params.followText "set-order" = true ∨ t.led = true)
theorem paired_perm {α β : Type} {F : α → β → Prop} {xs ys : List α} (p : ys.Perm xs) : ∀ {ks : List β}, Paired F xs ks → ∃ ls, Paired F ys ls ∧ ls.Perm ks := by
  induction p with
  | nil => exact fun h => ⟨_, h, .refl _⟩
  | cons x _ ih =>
    intro ks h
    cases h with
    | cons r t =>
      obtain ⟨ls, a, b⟩ := ih t
      exact ⟨_, .cons r a, b.cons _⟩
  | swap x y l =>
    intro ks h
    cases h with
    | cons r t => cases t with
      | cons r2 t2 => exact ⟨_, .cons r2 (.cons r t2), .swap _ _ _⟩
  | trans _ _ ih1 ih2 =>
    intro ks h
    obtain ⟨ls, a, b⟩ := ih2 h
    obtain ⟨ms, c, d⟩ := ih1 a
    exact ⟨ms, c, d.trans b⟩
theorem ent_mem {w : World} : ∀ {es : List (Int × Value)} {ks : List Str}, Paired (Ent w) es ks → ∀ e ∈ es, ∃ x ∈ ks, Ent w e x
  | _, _, .cons r t, e, he => by
    rcases List.mem_cons.mp he with rfl | he
    · exact ⟨_, List.mem_cons_self, r⟩
    · obtain ⟨x, h1, h2⟩ := ent_mem t e he
      exact ⟨x, List.mem_cons_of_mem _ h1, h2⟩
theorem mem_ent {w : World} : ∀ {es : List (Int × Value)} {ks : List Str}, Paired (Ent w) es ks → ∀ x ∈ ks, ∃ e ∈ es, Ent w e x
  | _, _, .cons r t, x, hx => by
    rcases List.mem_cons.mp hx with rfl | hx
    · exact ⟨_, List.mem_cons_self, r⟩
    · obtain ⟨e, h1, h2⟩ := mem_ent t x hx
      exact ⟨e, List.mem_cons_of_mem _ h1, h2⟩
theorem elems {P : Program} {w : World} {es : List (Int × Value)} {ks : List Str} (h : Paired (Ent w) es ks) : ElemsOf (PySem.strKind P w) es := fun e he => by
  obtain ⟨x, _, t, rfl⟩ := ent_mem h e he
  exact ⟨⟨x, strKind_is P w x t, rfl⟩, rfl⟩
section
variable {P : Program} {w : World} {A : Around} {E : Value → Shared → Prop} {s : Shared} {a : Addr} {L : List Str}
theorem TxSet.lt {h : Heap} (R : TxSet w h a L) : a < h.objs.size := let ⟨_, _, _, _, _, ho, _⟩ := R; Heap.lt_size ho
theorem TxSet.at {h h' : Heap} (R : TxSet w h a L) (k : ∀ o, h.get? a = some o → h'.get? a = some o) : TxSet w h' a L := let ⟨o, es, ep, t, ks, ho, r⟩ := R; ⟨o, es, ep, t, ks, k o ho, r⟩
theorem TxSet.typeIs (R : TxSet w s.heap a L) : s.TypeIs (.ref a) "set" := let ⟨o, _, _, _, _, ho, hx, _⟩ := R; ⟨o, ho, hx.1⟩
/-- the new entries are laid, the table perhaps grown -/
theorem tail_ok {g : Bool → Sem Unit} (hg : ∀ (b : Bool) (s₁ : Shared) (Q' : Unit → Shared → Prop), Q' () s₁ → wpAny (model P w) A (g b) Q' E s₁) {o : Obj} {es es1 : Array (Int × Value)} {ep : Nat} {t t2 : SetTable} {ks : List Str} {wd : Bool} {R : Option Bool → Shared → Prop}
    (ho : s.heap.get? a = some o) (hex : o.ExactSet) (hd : o.data = .set es ep t) (hp : Paired (Ent w) es1.toList ks) (pm0 : ks.Perm L) (nd : L.Nodup) (hb1 : es1.size < scanBound) (hf2 : t2.fits es1.size = true) (hr : Ris t2.place.toList) (hl : w.params.followText "set-order" = true ∨ t2.led = true)
    (hR : ∀ h', Heap.SameBut a s.heap h' → TxSet w h' a L → R (some true) { s with heap := h' }) :
    wpAny (model P w) A (do
        storeSet a es1 t2
        if (!wd && t2.tooFull) = true then do
            g (relayAll t2 es1 (SetTable.grown es1.size)).2.2
            storeSet a (relayAll t2 es1 (SetTable.grown es1.size)).1 (relayAll t2 es1 (SetTable.grown es1.size)).2.1
            pure (some true)
          else pure (some true)) R E s := by
  refine wpAny_bind (wpAny_storeSet_of ho hd ?_ (fits_of_scanBound hb1))
  have o1 := storeB_at' ho hd es1 t2; have sb1 := Heap.SameBut.update s.heap a (Obj.putSet es1 t2)
  split
  · have pm := relayAll_perm t2 es1 (SetTable.grown es1.size); have f3 := relayAll_fits t2 es1 (SetTable.grown es1.size); have r3 := relayAll_ris t2 es1 (SetTable.grown es1.size); have l3 := relayAll_led t2 es1 (SetTable.grown es1.size)
    generalize relayAll t2 es1 (SetTable.grown es1.size) = Z at pm f3 r3 l3 ⊢
    obtain ⟨es2, t3, gave⟩ := Z
    dsimp only at pm f3 r3 l3 ⊢
    have z2 : es2.size = es1.size := by rw [← Array.length_toList, pm.length_eq, Array.length_toList]
    have b2 : es2.size < scanBound := z2 ▸ hb1
    obtain ⟨ls, p2, q2⟩ := paired_perm pm hp
    refine wpAny_bind (hg _ _ _ (wpAny_bind (wpAny_storeSet_of o1 rfl (wpAny_pure (hR _ (sb1.trans (Heap.SameBut.update _ a _)) ?_)) (fits_of_scanBound b2))))
    exact ⟨_, es2, _, t3, ls, storeB_at' o1 rfl es2 t3, hex, rfl, p2, q2.trans pm0, nd, b2, f3, r3, hl.imp id fun z => l3 ▸ z⟩
  · exact wpAny_pure (hR _ sb1 ⟨_, es1, _, t2, ks, o1, hex, rfl, hp, pm0, nd, hb1, hf2, hr, hl⟩)
where storeB_at' {h : Heap} {a : Addr} {o : Obj} {es : Array (Int × Value)} {ep : Nat} {t : SetTable} (ho : h.get? a = some o) (hd : o.data = .set es ep t) (es' : Array (Int × Value)) (t' : SetTable) : (h.update a (Obj.putSet es' t')).get? a = some { o with data := .set es' (ep + 1) t' } :=
  L2.store_at (es' := es') (t' := t') ho hd
/-- what the set holds behind an add -/
def added (L : List Str) (k : Str) : List Str := if k ∈ L then L else L ++ [k]
theorem add_hashed {k : Str} {tk : Tok} {Q : Bool → Shared → Prop} (R : TxSet w s.heap a L) (room : L.length + 1 < scanBound) (hQ : ∀ h', Heap.SameBut a s.heap h' → TxSet w h' a (added L k) → Q (!decide (k ∈ L)) { s with heap := h' }) :
    wpAny (model P w) A (setAddHashed a (.str k tk) ((PySem.strKind P w).hash k)) Q E s := by
  obtain ⟨o, es, ep, t, ks, ho, hex, hd, hp, pk, nd, hb, hf, hr, hl⟩ := R
  have hkey : (PySem.strKind P w).is k (.str k tk) = true := strKind_is P w k tk
  have hsc : (Value.str k tk).scannable = true := rfl
  have hel : ElemsOf (PySem.strKind P w) es.toList := elems hp
  have is_iff : ∀ (e : Int × Value) (x : Str), Ent w e x → ((PySem.strKind P w).is k e.2 = true ↔ x = k) := fun e x hx => by
    obtain ⟨tx, rfl⟩ := hx
    show (x == k) = true ↔ x = k
    exact beq_iff_eq
  unfold setAddHashed setAddHashedIn
  refine wpAny_holding (wpAny_bind (wpAny_setState_of ho hd hf ?_))
  dsimp only
  rw [byScan_of hsc hb hel]
  simp only [↓reduceIte]
  unfold setAddByScan
  refine wpAny_bind (wpAny_bind (wpAny_rule (wpAny_bind (wpAny_setScan_of hkey ho hd hf hel ?_))))
  cases hfi : List.findIdx? (fun e => (PySem.strKind P w).is k e.2) es.toList with
  | some j =>
    dsimp only
    obtain ⟨hj, pj, _⟩ := List.findIdx?_eq_some_iff_getElem.mp hfi
    obtain ⟨x, hx, ex⟩ := ent_mem hp _ (List.getElem_mem hj)
    have hk : k ∈ L := by
      rw [← (is_iff _ x ex).mp pj]
      exact pk.mem_iff.mp hx
    have q := hQ s.heap (Heap.SameBut.refl a s.heap) (by unfold added; rw [if_pos hk]; exact ⟨o, es, ep, t, ks, ho, hex, hd, hp, pk, nd, hb, hf, hr, hl⟩)
    rw [decide_eq_true hk] at q
    exact wpAny_pure (wpAny_pure q)
  | none =>
    dsimp only
    have hk : k ∉ L := fun z => by
      obtain ⟨e, he, ex⟩ := mem_ent hp k (pk.mem_iff.mpr z)
      have c := List.findIdx?_eq_none_iff.mp hfi e he
      rw [(is_iff e k ex).mpr rfl] at c
      cases c
    have hgw : ∀ (b : Bool) {s₁ : Shared} {Q' : Unit → Shared → Prop}, Q' () s₁ → wpAny (model P w) A (match b with | true => rule "set.scan.the-table-gave-way" | false => pure ()) Q' E s₁ := fun b s₁ Q' q => by cases b <;> first | exact wpAny_pure q | exact wpAny_rule q
    have pm := layNew_perm t es ((PySem.strKind P w).hash k) (.str k tk); have f1 := layNew_fits t es ((PySem.strKind P w).hash k) (.str k tk)
    have r1 := layNew_ris t es ((PySem.strKind P w).hash k) (.str k tk) hr; have l1 := layNew_led t es ((PySem.strKind P w).hash k) (.str k tk)
    generalize layNew t es ((PySem.strKind P w).hash k) (.str k tk) = Z at pm f1 r1 l1 ⊢
    obtain ⟨es1, t1, wasDummy, gave⟩ := Z
    dsimp only at pm f1 r1 l1 ⊢
    rw [Array.toList_push] at pm
    have pc : es1.toList.Perm (((PySem.strKind P w).hash k, Value.str k tk) :: es.toList) := pm.trans (List.perm_append_singleton _ _)
    obtain ⟨ls, p1, q1⟩ := paired_perm pc (Paired.cons (show Ent w ((PySem.strKind P w).hash k, Value.str k tk) k from ⟨tk, rfl⟩) hp)
    have qL : ls.Perm (L ++ [k]) := q1.trans ((pk.cons k).trans (List.perm_append_singleton _ _).symm)
    have ndL : (L ++ [k]).Nodup := (List.perm_append_singleton k L).nodup_iff.mpr (List.nodup_cons.mpr ⟨hk, nd⟩)
    have esz : es.size = L.length := by rw [← Array.length_toList, Paired.length hp, pk.length_eq]
    have z1 : es1.size = L.length + 1 := by rw [← Array.length_toList, pc.length_eq, List.length_cons, Array.length_toList, esz]
    have b1 : es1.size < scanBound := z1 ▸ room
    have hled : w.params.followText "set-order" = true ∨ t1.led = true := hl.imp id fun z => l1 ▸ z
    have fin : ∀ h', Heap.SameBut a s.heap h' → TxSet w h' a (L ++ [k]) → Q true { s with heap := h' } := fun h' sb r => by
      have q := hQ h' sb (by unfold added; rw [if_neg hk]; exact r)
      rw [decide_eq_false hk] at q
      exact q
    refine wpAny_bind (hgw _ ?_)
    split
    · refine wpAny_bind ?_
      rw [hashByValue_scannable 8 hsc]
      refine wpAny_pure (tail_ok ?_ ho hex hd p1 qL ndL b1 ?_ ?_ ?_ ?_)
      · intro b s₁ Q' q; cases b <;> first | exact wpAny_pure q | exact wpAny_rule q
      · first | (split <;> first | exact f1 | exact SetTable.fits_plain_off f1) | exact f1
      · first | (split <;> exact r1) | exact r1
      · first | (split <;> exact hled) | exact hled
      · intro h' sb r; dsimp only; exact wpAny_pure (fin h' sb r)
    · refine wpAny_bind (wpAny_pure ?_)
      simp only [↓reduceIte]
      refine tail_ok ?_ ho hex hd p1 qL ndL b1 f1 r1 hled ?_
      · intro b s₁ Q' q; cases b <;> first | exact wpAny_pure q | exact wpAny_rule q
      · intro h' sb r; dsimp only; exact wpAny_pure (fin h' sb r)
theorem add_ok {k : Str} {tk : Tok} {Q : Value → Shared → Prop} (R : TxSet w s.heap a L) (room : L.length + 1 < scanBound) (hQ : ∀ h' tk', Heap.SameBut a s.heap h' → TxSet w h' a (added L k) → Q .none { s with heap := h', toks := tk' }) :
    wpAny (model P w) A (call (.builtin "set.add") [.ref a, .str k tk]) Q E s := by
  refine wpAny_call_entry F.slot_set_add R.typeIs F.entry_set_add ?_ (F.args_set_add_2 _ _)
  unfold Builtin.«set.add» Builtin.Frozenset.oneOther
  simp only [List.isEmpty_nil, bind_assoc]
  unfold Builtin.Frozenset.addrOf setAdd
  refine wpAny_bind (wpAny_pure ?_); try dsimp only
  refine wpAny_bind (wpAny_pure ?_); try dsimp only
  refine wpAny_bind (wpAny_holding (wpAny_bind ((PySem.strKind P w).pyHash (strKind_is P w k tk) ?_)))
  refine add_hashed R room fun h' sb r => ?_
  show wpAny _ _ (ret Value.none) _ _ _
  exact wpAny_pure ⟨_, rfl, hQ h' _ sb r⟩
theorem fresh {h : Heap} (w : World) : TxSet w (h.push { cls := .type "set", dict := none, data := .set #[] 0 (.fresh 0 0 (!w.params.followText "set-order")) }) h.objs.size [] :=
  ⟨_, #[], 0, _, [], Heap.get?_push_size _ rfl, ⟨rfl, rfl, rfl⟩, rfl, .nil, .refl _, .nil, by decide, by rfl, List.Pairwise.nil, by
    show _ ∨ (!w.params.followText "set-order") = true
    cases w.params.followText "set-order" <;> simp⟩
theorem paired_strs {w : World} : ∀ {es : List (Int × Value)} {ks : List Str}, Paired (Ent w) es ks → StrsAre (es.map (·.2)) ks
  | _, _, .nil => .nil
  | _, _, .cons r t => by
    obtain ⟨tk, rfl⟩ := r
    exact .cons _ tk (paired_strs t)
theorem strs_perm : ∀ {us vs : List Value} (p : us.Perm vs) {ks : List Str}, StrsAre vs ks → ∃ ls, StrsAre us ls ∧ ls.Perm ks := by
  intro us vs p
  induction p with
  | nil => exact fun h => ⟨_, h, .refl _⟩
  | cons x _ ih =>
    intro ks h
    cases h with
    | cons n t r =>
      obtain ⟨ls, a, b⟩ := ih r
      exact ⟨_, .cons n t a, b.cons _⟩
  | swap x y l =>
    intro ks h
    cases h with
    | cons n t r => cases r with
      | cons n2 t2 r2 => exact ⟨_, .cons n2 t2 (.cons n t r2), .swap _ _ _⟩
  | trans _ _ ih1 ih2 =>
    intro ks h
    obtain ⟨ls, a, b⟩ := ih2 h
    obtain ⟨ms, c, d⟩ := ih1 a
    exact ⟨ms, c, d.trans b⟩
/-- sorted(of a set) -/
theorem sorted_ok {Q : Value → Shared → Prop} (R : TxSet w s.heap a L) (hh : A.handled = none) (h64 : L.length < 64)
    (hQ : ∀ s' p (out : Array Value) (c : Nat) (ys : List Str), (∀ b o, s.heap.get? b = some o → s'.heap.get? b = some o) → s'.gens = s.gens → s'.os = s.os → s.heap.objs.size ≤ p → s'.heap.get? p = some (seqObj "list" out c) → StrsAre out.toList ys → ys.Perm L → sortedS ys = true → Q (.ref p) s') :
    wpAny (model P w) A (call (.builtin "sorted") [.ref a]) Q E s := by
  obtain ⟨o, es, ep, t, ks, ho, hex, hd, hp, pk, nd, hb, hf, hr, hl⟩ := R
  refine Calls.call_function_entry kind_sorted plain_sorted entry_sorted (args_sorted1 _) ?_
  unfold Builtin.«sorted»
  refine wpAny_bind (m := checkCount "sorted" 1 1 _) (wpAny_pure (wpAny_bind (collect_set (A := A.in1) hh ⟨o, ho, hex.1, hd⟩ hf hb hr hl fun s1 vs k1 hz g1 o1 pm => ?_)))
  obtain ⟨ls, hS, q⟩ := strs_perm pm (paired_strs hp)
  have lL : ls.Perm L := q.trans pk
  have lv : vs.length = L.length := by rw [hS.length, lL.length_eq]
  refine wpAny_bind (wpAny_newList ?_ (by rw [lv, sizeLine_eq]; omega))
  have hoL : (s1.heap.push (seqObj "list" vs.toArray 0)).get? s1.heap.objs.size = some (seqObj "list" vs.toArray 0) := Heap.get?_push_size _ rfl
  refine wpAny_bind (wpAny_holding (wpAny_call_entry slot_list_sort ⟨_, hoL, rfl⟩ entry_list_sort (list_sort_treeKAny strKind_oneLt hoL hS.keysOf (fun v₁ v₂ rest e => keyKind_strs (by rw [← e]; exact hS)) (by rw [lv, sizeLine_eq]; omega) fun st' hpm hs => ⟨_, rfl, ?_⟩) (args_list_sort _)))
  obtain ⟨ys, y1, y2, y3⟩ := sorted_out_str hS hpm hs
  obtain ⟨c, hc⟩ := sortedHeap_at (vs := vs) (out := (arrOf st').map (·.2)) hoL
  refine wpAny_pure ⟨_, rfl, hQ _ s1.heap.objs.size _ c ys (fun b u e => ?_) g1 o1 hz hc y1 (y2.trans lL) y3⟩
  have e1 := k1 b u e
  have hlt := Heap.lt_size e1
  show (sortedHeap (s1.heap.push (seqObj "list" vs.toArray 0)) s1.heap.objs.size vs _).get? b = some u
  rw [sortedHeap_old (Nat.ne_of_lt hlt) (by rw [size_push']; exact Nat.lt_succ_of_lt hlt)]
  exact Heap.get?_push_of_some _ e1
end
def SetX (w : World) (a : Addr) (L : List Str) : HO := .ext fun h => TxSet w h a L
theorem setX_new {w : World} {P : Program} {H : Hp} {h : Heap} {a : Addr} {L : List Str} (R : TxSet w h a L) : ObjOk P w H h a (SetX w a L) := let ⟨o, _, _, _, _, ho, _⟩ := id R; ⟨R, ⟨o, ho⟩, fun h1 h2 p k => p.at k⟩
section
variable {X : Cx}
theorem setX_get {pins : List (Addr × Obj)} {σ : L2.St} {H : Hp} {s : Shared} {a : Addr} {L : List Str} (I : Inv X pins σ H s) (ha : H a = some (SetX X.w a L)) : TxSet X.w s.heap a L := (I.hok a _ ha).1
/-- sorted(set), fewer than 64 texts -/
def rSortX (w : World) : List V → Hp → VK → Prop := fun vs H Q => ∃ (a : Addr) (L : List Str), vs = [.ref a] ∧ H a = some (SetX w a L) ∧ L.length < 64 ∧ ∀ (ys : List Str) (p : Addr), ys.Perm L → sortedS ys = true → H p = none → Q (.ref p) (upd H p (.lst (ys.map V.str)))
theorem cr_sortX (hc : X.calm = true) : CallR X (.builtin "sorted") (rSortX X.w) := by
  intro pins s σ H vs us Q I r h
  obtain ⟨a, L, rfl, ha, h64, q⟩ := h
  rw [Vals.ref1 r]
  refine sorted_ok (setX_get I ha) (I.ok.hd hc) h64 fun s' p out c ys k g o hp hg hS pm so => ?_
  have hlen : (ys.map V.str).length ≤ sizeLine := by rw [List.length_map, pm.length_eq, sizeLine_eq]; omega
  have hn : H p = none := I.hok.fresh hp
  have J : Inv X pins σ (upd H p (.lst (ys.map V.str))) s' := by
    have z : s' = { s with heap := s'.heap, gens := s'.gens, drawn := s'.drawn, toks := s'.toks } := by cases s'; cases s; cases o; rfl
    rw [z]
    exact I.call (ch := []) (Un.laid k hp hn) (I.hok.laid k hp ⟨hlen, out.toList, c, vals_of_strs hS, hg⟩) (by rw [g]; exact I.bare) fun _ z => nomatch z
  exact ⟨.ref p, _, J, rfl, q ys p pm so hn⟩
/-- an item goes to the new set -/
def emX (w : World) (te : TE) (D : Addr) : L2.St → Hp → (Hp → Prop) → Prop := fun σ H Nx => te σ H fun y H1 => ∃ (x : Str) (L : List Str), y = .str x ∧ H1 D = some (SetX w D L) ∧ L.length + 1 < scanBound ∧ Nx (upd H1 D (SetX w D (added L x)))
theorem emX_ok {B : Cx} {D : Addr} {elt : Expr} {gens : List Comprehension} {scope : Scope} {pos : Pos} {te : TE} (b1 : B.xe = GC.NoE) (he : PE B elt te) : GC.EmOk B (.ref D) (.SetComp elt gens scope pos) (emX B.w te D) := by
  intro pins s σ H Nx I q
  have r := he.run pins s σ H _ I q
  rw [b1] at r
  refine thnF r fun x s1 h => ?_
  obtain ⟨y, H1, I1, r1, z, L, rfl, hD, room, nx⟩ := h
  obtain ⟨t, rfl⟩ := r1
  refine add_ok (setX_get I1 hD) room fun h' tk' sb R => ⟨_, I1.write (e := D) (t' := tk') (by rw [hD]; trivial) (.inl rfl) (fun b u hb hu => (sb.2 b hb).trans hu) ?_ (setX_new R), nx⟩
  obtain ⟨o, _, _, _, _, ho, _⟩ := id R
  exact ⟨o, ho⟩
theorem new_set {P : Program} {w : World} : GC.NewOk P w (newSet (.type "set")) fun D => SetX w D [] := fun A E s Q h => PpSet.newSet_ok (h _ fun H' _ => setX_new (fresh w))
/-- a set comprehension of texts -/
theorem pe_scX {elt tg iter : Expr} {ifs : List Expr} {gens : List Comprehension} {scope : Scope} {own : List (Str × Nat)} {pos : Pos} {wi : TI} {g : TG} {tt : TT} {te : TE} {cs : List GC.Cl} (hc : X.calm = true) (hN : X.N.Nodup) (hi : PI X tg iter wi) (ok : BlkOk X.N X.env.scope scope own)
    (hg : GC.Blk X scope fun B => PG B tg g) (ht : GC.Blk X scope fun B => PTs B ifs tt) (r : GC.Cls X scope gens cs) (nst : GC.Nested (⟨tg, iter, ifs, wi, g, tt, own.map (·.2)⟩ :: cs)) (he : GC.Blk X scope fun B => PE B elt te) (hs : ∀ env x, foldedSetIterable iter env x = pure x := by intro _ _; rfl) :
    PE X (.SetComp elt (⟨tg, iter, ifs, 0⟩ :: gens) scope pos) (GC.tCo (fun D => SetX X.w D []) ⟨tg, iter, ifs, wi, g, tt, own.map (·.2)⟩ cs (emX X.w te)) :=
  GC.pe_co rfl (.s ..) new_set hc hN hi ok hg ht r nst (fun D s H C cl fp => emX_ok rfl (he s H C cl fp)) hs
end
end TxS
set_option Elab.async false
set_option linter.all false
set_option maxRecDepth 100000
set_option maxHeartbeats 2000000
namespace SmR
open PySem PySem.Spec PySem.W PyProof.Rows L2
section
variable {X : Cx}
/-- the signs of a text, each a text -/
def signs (z : Str) : List Str := z.cps.toList.map fun c => ⟨#[c]⟩
theorem vals_signs {z : Str} : ∀ {us : List Value} {cs : List Nat}, us.length = cs.length → (∀ (j : Nat) v, us[j]? = some v → ∃ c u, cs[j]? = some c ∧ v = Value.str ⟨#[c]⟩ u) → Vals ((cs.map fun c => (⟨#[c]⟩ : Str)).map V.str) us
  | [], [], _, _ => .nil
  | [], _ :: _, h, _ => by cases h
  | _ :: _, [], h, _ => by cases h
  | u :: us, c :: cs, h, k => by
    obtain ⟨c', t, e1, e2⟩ := k 0 u rfl
    cases e1
    exact .cons ⟨t, e2⟩ (vals_signs (z := z) (Nat.succ.inj h) fun j v e => k (j + 1) v e)
theorem cr_listStr (hc : X.calm = true) : CallR X (.type "list") (fun vs H Q => ∃ z : Str, vs = [.str z] ∧ z.length ≤ 1000 ∧ ∀ p, H p = none → Q (.ref p) (upd H p (.lst ((signs z).map V.str)))) := by
  intro pins s σ H vs us Q I r h
  obtain ⟨z, rfl, few, q⟩ := h
  obtain ⟨u, rfl, t, rfl⟩ := vals1 r
  have hz : z.cps.size ≤ sizeLine := by
    rw [sizeLine_eq]
    exact Nat.le_trans few (by decide)
  refine call_list_str (hn := hz) (I.ok.hd hc) z t fun h' tk acc c hk hS hacc => ?_
  have hn : H s.heap.objs.size = none := I.hok.fresh (Nat.le_refl _)
  have lz : ((signs z).map V.str).length = z.cps.size := by unfold signs; rw [List.length_map, List.length_map, Array.length_toList]
  refine ⟨.ref s.heap.objs.size, _, I.laid (o := .lst ((signs z).map V.str)) (t' := tk) (fun b o e => hk b o e) (Nat.le_refl _) ⟨by rw [lz]; exact hz, acc.toList, c, ?_, by rw [Array.toArray_toList]; exact hS⟩, rfl, q _ hn⟩
  refine vals_signs (z := z) (by rw [Array.length_toList, Array.length_toList]; exact hacc.1) fun j v e => ?_
  obtain ⟨cc, u, e1, e2⟩ := hacc.2 j v (by rw [← Array.getElem?_toList]; exact e)
  exact ⟨cc, u, by rw [Array.getElem?_toList]; exact e1, e2⟩
end
end SmR
set_option Elab.async false
set_option maxRecDepth 100000
namespace KT
open PySem L2 PyProof.Rows
/-- the built-in names that the law leaves alone -/
structure Blt (mg : Str → Option Value) : Prop where
  int : mg "int" = none
  max : mg "max" = none
  min : mg "min" = none
  sum : mg "sum" = none
  len : mg "len" = none
  range : mg "range" = none
/-- a def of the text as its callers know it -/
structure Cee (P : Program) (w : World) (K : PySem.W.Frag) (mg : Str → Option Value) (base : Heap) (k : Nat) (x : Str) (ps : List Str) (sp : Sp) : Prop where
  ex : ∃ (f : Addr) (fd : FuncData), FnOk P w K mg base CX0 k f fd ps sp ∧ mg x = some (.ref f) ∧ PySem.W.keepIn K (.ref f) = true ∧ Binds K fd ps []
section
variable {X : Cx} {k j : Nat} {x : Str} {ps : List Str} {sp : Sp} {p pos : Pos} {e : Expr} {es : List Expr} {t : TA}
theorem pe_c (C : Cee X.prog X.w X.K X.mg X.base k x ps sp) (hr : Room j X.A) (hg : Gl X x) (ha : PA X (e :: es) t) (hkj : k ≤ j := by decide)
    (hdb : (x == ("__debug__" : Str)) = false := by decide) (he : starEach (e :: es) X.env = (false, eval e X.env) :: starEach es X.env := by rfl) (hpl : (backTo pos (starEach es X.env)).any (·.1) = false := by rfl) :
    PE X (.Call (.Name x p) (e :: es) [] pos) (tCall sp [] E0 t) := by
  obtain ⟨f, fd, F, m, kp, b⟩ := C.ex
  exact pe_call F (hr.mono hkj) hg m kp b .nil pass0 ha hdb he hpl
/-- ** of an int of any size to a written power -/
theorem op_powW : OpR X (binaryOp .Pow) (rI (fun i j => 0 ≤ j ∧ (Builtin.Int.intBits i : Int) * j ≤ 2 ^ 27) fun i j => .int (i ^ j.toNat)) := opI fun _ _ _ _ _ _ _ hc q => pow_int hc.1 hc.2 q
end
def PurseAt (H : Hp) (p : Addr) (B : Int) : Prop := ∃ a b c d : Int, H p = some (.lst [.int a, .int b, .int c, .int d]) ∧ 0 ≤ b ∧ b < 2147483629 ∧ 0 ≤ c ∧ c ≤ B
/-- all but what stands at p is as it was -/
def But (p : Addr) (H H' : Hp) : Prop := ∀ b o, b ≠ p → H b = some o → H' b = some o
theorem But.refl (p : Addr) (H : Hp) : But p H H := fun _ _ _ h => h
theorem But.trans {p : Addr} {H H1 H2 : Hp} (a : But p H H1) (b : But p H1 H2) : But p H H2 := fun c o n h => b c o n (a c o n h)
theorem But.upd {p : Addr} {H H1 : Hp} {o : HO} (a : But p H H1) : But p H (upd H1 p o) := fun c u n h => by
  rw [upd_ne n]
  exact a c u n h
theorem But.new {p q : Addr} {H H1 : Hp} {o : HO} (a : But p H H1) (hq : H1 q = none) : But p H (L2.upd H1 q o) := fun c u n h => by
  rw [upd_ne (ne_of_none (a c u n h) hq)]
  exact a c u n h
def spPurse (K : PySem.W.Frag) : Sp := fun vs H Q _ => ∃ (a : Addr) (ns : List Int) (i : Nat), vs = [.ref a, .int i] ∧ SqL K H a (ns.map V.int) ∧ i ≤ 63 ∧ ∀ (p : Addr) (H' : Hp), Same H H' → H p = none → PurseAt H' p 0 → Q (.ref p) H'
def spMixed : Sp := fun vs H Q _ => ∃ s n t : Int, vs = [.int s, .int n, .int t] ∧ -(2 ^ 64) < n ∧ n < 2 ^ 64 ∧ ∀ r : Int, Q (.int r) H
def spDraw : Sp := fun vs H Q _ => ∃ (p : Addr) (m B : Int), vs = [.ref p, .int m] ∧ PurseAt H p B ∧ 0 ≤ B ∧ B ≤ 1000000 ∧ 0 < m ∧ m < 2 ^ 110 ∧ ∀ (r : Int) (H' : Hp), But p H H' → PurseAt H' p (B + 4) → 0 ≤ r → r < m → Q (.int r) H'
section
variable {P : Program} {w : World} {K : PySem.W.Frag} {mg : Str → Option Value} {base : Heap}
theorem scMixed : FnScope ["_law_seed", "_law_spin", "_law_at", "_law_mixed_here"] ["_law_seed", "_law_spin", "_law_at"] (defScope sMixed) := ⟨rfl, rfl, rfl, by decide +kernel, rfl, by decide +kernel, by decide +kernel⟩
theorem ok_mixed {f : Addr} {fd : FuncData} (F : Fun K "_law_mixed" "_law_mixed" sMixed f fd) (T : Blt mg) : FnOk P w K mg base CX0 1 f fd ["_law_seed", "_law_spin", "_law_at"] spMixed := by
  refine F.ok scMixed (fun vs H Q E h => ?_) (fun cdv A outer s H vs Q E hr h => ?_)
  · obtain ⟨s, n, t, rfl, _⟩ := h
    rfl
  · obtain ⟨s, n, t, rfl, n1, n2, k⟩ := h
    refine ⟨_, pss_cons (ps_set (i := 3) scMixed.nd rfl (Or.inl rfl) (pe_op op_add (pe_op op_mul (pv 0) pe_int) (pe_op op_mul (pe_op op_mul pe_int (pv 1)) (pv 1))))
      (pss_cons (ps_set (i := 3) scMixed.nd rfl (Or.inl rfl) (pe_op op_mod (pe_callTy call_int1 (by rfl) T.int boot_int (pa_cons (pe_op op_add (pe_op op_add (pv 3) (pe_op op_mul pe_int (pv 2))) (pv 1)) pa_nil)) pe_int))
      (pss_cons (ps_set (i := 3) scMixed.nd rfl (Or.inl rfl) (pe_op op_mod (pe_callTy call_int1 (by rfl) T.int boot_int (pa_cons (pe_op op_add (pe_op op_mul (pv 3) (pv 3)) pe_int) pa_nil)) pe_int))
      (pss_one (ps_ret (pe_op op_mod (pe_callTy call_int1 (by rfl) T.int boot_int (pa_cons (pe_op op_mul (pv 3) pe_int) pa_nil)) pe_int))))), ?_⟩
    refine ⟨_, rfl, _, _, rfl, rfl, .inr (by decide), _, rfl, _, _, rfl, rfl, .inl (by decide), _, rfl, _, _, rfl, rfl, .inr ⟨n1, n2⟩, _, _, rfl, rfl, ?_⟩
    refine ⟨_, rfl, _, rfl, _, _, rfl, rfl, .inl (by decide), _, _, rfl, rfl, _, rfl, _, _, rfl, rfl, .inl ⟨_, rfl, _, _, rfl, rfl, (by show (0 : Int) < 2147483647; decide), ?_⟩⟩
    generalize hx : (s * 69069 + 104729 * n * n + 7919 * t + n) % 2147483647 = x
    have x1 : 0 ≤ x ∧ x < 2147483647 := by subst hx; omega
    refine ⟨_, rfl, _, rfl, _, _, rfl, rfl, .inl (by omega), _, _, rfl, rfl, .inl ⟨_, rfl, _, _, rfl, rfl, (by show (0 : Int) < 2147483629; decide), ?_⟩⟩
    exact ⟨_, rfl, _, _, rfl, rfl, .inr (by decide), .inl ⟨_, rfl, _, _, rfl, rfl, (by show (0 : Int) < 2147483587; decide), k _⟩⟩
theorem intBits_le110 {m : Int} (h : 0 < m) (h2 : m < 2 ^ 110) : (Builtin.Int.intBits m : Nat) / 28 ≤ 3 := by
  have b := PyProof.Rows.intBits_le (a := m) (k := 110) (by omega)
  omega
theorem scDraw : FnScope ["_law_purse_here", "_law_many", "_law_drawn", "_law_found", "_law_piece"] ["_law_purse_here", "_law_many"] (defScope sDraw) := ⟨rfl, rfl, rfl, by decide +kernel, rfl, by decide +kernel, by decide +kernel⟩
theorem ok_draw {f : Addr} {fd : FuncData} (F : Fun K "_law_draw" "_law_draw" sDraw f fd) (T : Blt mg) (M : Cee P w K mg base 1 "_law_mixed" ["_law_seed", "_law_spin", "_law_at"] spMixed) : FnOk P w K mg base CX0 2 f fd ["_law_purse_here", "_law_many"] spDraw := by
  refine F.ok scDraw (fun vs H Q E h => ?_) (fun cdv A outer s H vs Q E hr h => ?_)
  · obtain ⟨p, m, B, rfl, _⟩ := h
    rfl
  · obtain ⟨p, m, B, rfl, ⟨a, b, c, d, hp, b0, b1, c0, c1⟩, B0, B1, m0, m1, k⟩ := h
    have nd := scDraw.nd
    refine ⟨_, pss_cons (ps_if (pt_cmpR op_gt (pe_ix ix_list (pv 0) pe_int (fun _ _ => rfl)) pe_int (nomark _))
        (pss_cons (ps_set (i := 2) nd rfl (Or.inl rfl) (pe_op op_mod (pe_callTy call_int1 (by rfl) T.int boot_int (pa_cons (pe_ix ix_list (pv 0) pe_int (fun _ _ => rfl)) pa_nil)) (pv 1)))
          (pss_cons (ps_asg (pe_op op_fdivW (pe_ix ix_list (pv 0) pe_int (fun _ _ => rfl)) (pv 1)) (pg_sub (pv 0) pe_int set_list))
            (pss_one (ps_ret (pv 2)))))
        pss_nil)
      (pss_cons (ps_set (i := 3) nd rfl (Or.inl rfl) pe_int)
      (pss_cons (ps_for PassesOwn.never rfl (pi_range1 rfl T.range (pa_cons (pe_op op_add pe_int (pe_op op_fdiv (pe_bits (pv 1)) pe_int)) pa_nil)) (pg_name (i := 4) nd rfl (Or.inl rfl))
        (pss_cons (ps_asg (pe_op op_add (pe_ix ix_list (pv 0) pe_int (fun _ _ => rfl)) pe_int) (pg_sub (pv 0) pe_int set_list))
          (pss_one (ps_set (i := 3) nd rfl (Or.inl rfl) (pe_op op_add (pe_op op_mul (pv 3) pe_int)
            (pe_c M hr rfl (pa_cons (pe_ix ix_list (pv 0) pe_int (fun _ _ => rfl)) (pa_cons (pe_ix ix_list (pv 0) pe_int (fun _ _ => rfl)) (pa_cons (pe_ix ix_list (pv 0) pe_int (fun _ _ => rfl)) pa_nil)))))))))
      (pss_one (ps_ret (pe_op op_mod (pe_callTy call_int1 (by rfl) T.int boot_int (pa_cons (pv 3) pa_nil)) (pv 1)))))), ?_⟩
    have hS : SqL K H p [.int a, .int b, .int c, .int d] := SqL.of hp
    refine ⟨_, rfl, _, _, _, _, rfl, rfl, hS, atI_nat (j := 0) rfl, _, _, rfl, rfl, _, rfl, ?_⟩
    refine ite2 (fun _ => ?_) (fun _ => ?_)
    · refine ⟨_, rfl, _, _, _, _, rfl, rfl, hS, atI_nat (j := 0) rfl, .inl ⟨_, rfl, _, rfl, _, _, rfl, rfl, m0, ?_⟩⟩
      refine ⟨_, rfl, _, _, _, _, rfl, rfl, hS, atI_nat (j := 0) rfl, _, rfl, _, _, rfl, rfl, ⟨m0, ?_⟩, ?_⟩
      · exact Nat.lt_of_lt_of_le (PySem.Flt.log2_lt_of (k := 110) (by decide) (by omega)) (by decide)
      refine ⟨_, rfl, _, _, _, 0, rfl, rfl, hp, rfl, ?_⟩
      refine ⟨_, rfl, k _ _ ?_ ?_ ?_ ?_⟩
      · exact (But.refl p H).upd
      · exact ⟨_, _, _, _, upd_same, b0, b1, c0, by omega⟩
      · exact Int.emod_nonneg _ (by omega)
      · exact Int.emod_lt_of_pos _ m0
    · refine ⟨_, rfl, _, rfl, _, _, rfl, rfl, (by show (0 : Int) < 28 ∧ (28 : Int) < 1073741824; decide), _, _, rfl, rfl, _, rfl, ?_⟩
      have hb := intBits_le110 m0 m1
      generalize hn : (1 + ((Builtin.Int.intBits m : Nat) : Int) / 28) = n
      have n4 : n ≤ 4 := by omega
      have n0 : 0 ≤ n := by omega
      refine ⟨by omega, by omega, ?_⟩
      refine for_range (lo := 0) (n := n.toNat) (fun i σ H' => ∃ (fo : Int) (x2 x4 : Option V), σ = [some (.ref p), some (.int m), x2, some (.int fo), x4] ∧ But p H H' ∧ i ≤ 4 ∧
        ∃ a2 c2 : Int, H' p = some (.lst [.int a2, .int b, .int c2, .int d]) ∧ 0 ≤ c2 ∧ c2 ≤ c + i) ?_ ?_ ?_
      · exact ⟨0, _, _, rfl, But.refl p H, by omega, a, c, hp, c0, by omega⟩
      · rintro i σ H1 hi ⟨fo, x2, x4, rfl, bt, i4, a2, c2, h1, c20, c21⟩
        have h1S : SqL K H1 p [.int a2, .int b, .int c2, .int d] := SqL.of h1
        refine ⟨_, rfl, _, _, _, _, rfl, rfl, h1S, atI_nat (j := 2) rfl, _, _, rfl, rfl, _, rfl, _, _, _, 2, rfl, rfl, h1, rfl, ?_⟩
        have h2 : upd H1 p (.lst [.int a2, .int b, .int (c2 + 1), .int d]) p = some (.lst [.int a2, .int b, .int (c2 + 1), .int d]) := upd_same
        have h2S : SqL K (upd H1 p (.lst [.int a2, .int b, .int (c2 + 1), .int d])) p [.int a2, .int b, .int (c2 + 1), .int d] := SqL.of h2
        refine ⟨_, rfl, _, _, rfl, rfl, .inr (by decide), ?_⟩
        refine ⟨_, rfl, _, _, _, _, rfl, rfl, h2S, atI_nat (j := 1) rfl, ?_⟩
        refine ⟨_, rfl, _, _, _, _, rfl, rfl, h2S, atI_nat (j := 2) rfl, ?_⟩
        refine ⟨_, rfl, _, _, _, _, rfl, rfl, h2S, atI_nat (j := 3) rfl, ?_⟩
        refine ⟨_, _, _, rfl, by omega, by omega, fun r => ⟨_, _, rfl, rfl, ?_⟩⟩
        exact ⟨_, _, _, rfl, bt.upd, by omega, a2, c2 + 1, h2, by omega, by omega⟩
      · rintro σ H1 ⟨fo, x2, x4, rfl, bt, _, a2, c2, h1, c20, c21⟩
        refine ⟨_, rfl, .inl ⟨_, rfl, _, rfl, _, _, rfl, rfl, m0, ?_⟩⟩
        refine k _ _ bt ⟨_, _, _, _, h1, b0, b1, c20, by omega⟩ ?_ ?_
        · exact Int.emod_nonneg _ (by omega)
        · exact Int.emod_lt_of_pos _ m0
theorem cut_ints (ns : List Int) (lo hi : Option Int) : ∃ ms : List Int, cutV (ns.map V.int) lo hi = ms.map V.int := by
  unfold cutV
  rw [← List.map_drop, ← List.map_take]
  exact ⟨_, rfl⟩
theorem scPurse : FnScope ["_law_script", "_law_at", "_law_seed"] ["_law_script", "_law_at"] (defScope sPurse) := ⟨rfl, rfl, rfl, by decide +kernel, rfl, by decide +kernel, by decide +kernel⟩
theorem pow18 : CPow 10 18 := ⟨by decide, by decide, by decide⟩
theorem pow60 : CPow 10 60 := ⟨by decide, by decide, by decide⟩
theorem pow480 : (0 : Int) ≤ 8 ∧ (Builtin.Int.intBits ((10 : Int) ^ (60 : Int).toNat) : Int) * 8 ≤ 2 ^ 27 := by
  have b := PyProof.Rows.intBits_le (a := (10 : Int) ^ (60 : Int).toNat) (k := 300) (by decide +kernel)
  omega
theorem pos480 : (0 : Int) < ((10 : Int) ^ (60 : Int).toNat) ^ (8 : Int).toNat := by decide +kernel
theorem ok_purse {f : Addr} {fd : FuncData} (F : Fun K "_law_purse" "_law_purse" sPurse f fd) (T : Blt mg) : FnOk P w K mg base CX0 1 f fd ["_law_script", "_law_at"] (spPurse K) := by
  refine F.ok scPurse (fun vs H Q E h => ?_) (fun cdv A outer s H vs Q E hr h => ?_)
  · obtain ⟨a, ns, i, rfl, _⟩ := h
    rfl
  · obtain ⟨a, ns, i, rfl, hS, hi, k⟩ := h
    have nd := scPurse.nd
    refine ⟨_, pss_cons (ps_set (i := 2) nd rfl (Or.inl rfl) (pe_callB (cr_sum rfl) (by rfl) T.sum (by decide +kernel) (pa_cons (pe_slice sl_list (pv 0) (po_some (pv 1)) (po_some (pe_op op_add (pv 1) pe_int))) pa_nil)))
      (pss_one (ps_ret (pe_lst
        (pa_cons (pe_op op_mod (pe_callTy call_int1 (by rfl) T.int boot_int (pa_cons (pe_callB (call_max2 rfl) (by rfl) T.max boot_max (pa_cons (pe_op op_sub (pv 2) (pe_op op_pow pe_int pe_int)) (pa_cons pe_int pa_nil))) pa_nil)) (pe_op op_powW (pe_op op_pow pe_int pe_int) pe_int))
        (pa_cons (pe_op op_mod (pe_callTy call_int1 (by rfl) T.int boot_int (pa_cons (pv 2) pa_nil)) pe_int)
        (pa_cons pe_int (pa_cons (pv 1) pa_nil))))))), ?_⟩
    refine ⟨_, rfl, _, rfl, _, rfl, _, rfl, _, _, rfl, rfl, _, rfl, a, _, rfl, hS, fun p hp => ?_⟩
    obtain ⟨ms, hm⟩ := cut_ints ns (some (i : Int)) (some ((i : Int) + 1))
    have hpS : SqL K (upd H p (.lst (cutV (ns.map V.int) (some (i : Int)) (some ((i : Int) + 1))))) p (ms.map V.int) := SqL.of (by rw [← hm]; exact upd_same)
    refine ⟨p, ms, rfl, hpS, ?_⟩
    refine ⟨_, rfl, _, _, rfl, rfl, pow18, _, _, rfl, rfl, _, _, rfl, .inl ⟨_, rfl, ?_⟩⟩
    refine ⟨_, _, rfl, rfl, pow60, _, _, rfl, rfl, pow480, _, _, rfl, rfl, pos480, ?_⟩
    refine ⟨_, rfl, .inl ⟨_, rfl, _, _, rfl, rfl, (by show (0 : Int) < 2147483629; decide), ?_⟩⟩
    refine ⟨_, rfl, (by show 4 ≤ sizeLine; decide), fun q hq => ?_⟩
    have np : q ≠ p := fun e => by
      rw [e, upd_same] at hq
      cases hq
    have hq0 : H q = none := by
      rw [upd_ne np] at hq
      exact hq
    refine k q _ (fun b o e => ?_) hq0 ⟨_, _, _, _, upd_same, ?_, ?_, by decide, by decide⟩
    · rw [upd_ne (ne_of_none e hq0), upd_ne (ne_of_none e hp)]
      exact e
    · exact Int.emod_nonneg _ (by decide)
    · exact Int.emod_lt_of_pos _ (by decide)
/-- a word: one to eight letters from a to z -/
def Wd (x : Str) : Prop := 1 ≤ x.length ∧ x.length ≤ 8 ∧ ∀ c ∈ x.cps.toList, 97 ≤ c ∧ c ≤ 122
def Letter (x : Str) : Prop := ∃ c : Nat, x = ⟨#[c]⟩ ∧ 97 ≤ c ∧ c ≤ 122
theorem wd_join : ∀ ys : List Str, (∀ y ∈ ys, Letter y) → (Str.join ⟨#[]⟩ ys).length = ys.length ∧ ∀ c ∈ (Str.join ⟨#[]⟩ ys).cps.toList, 97 ≤ c ∧ c ≤ 122 := by
  intro ys
  induction ys with
  | nil => intro _; exact ⟨rfl, fun c hc => by cases hc⟩
  | cons y ys ih =>
    intro h
    obtain ⟨c, rfl, c1, c2⟩ := h y List.mem_cons_self
    obtain ⟨e1, e2⟩ := ih fun z hz => h z (List.mem_cons_of_mem _ hz)
    cases ys with
    | nil => exact ⟨rfl, fun d hd => by
        have : d = c := by simpa [Str.join] using hd
        omega⟩
    | cons z zs =>
      have e : Str.join ⟨#[]⟩ (⟨#[c]⟩ :: z :: zs) = (⟨#[c]⟩ : Str) ++ (⟨#[]⟩ : Str) ++ Str.join ⟨#[]⟩ (z :: zs) := rfl
      rw [e]
      refine ⟨?_, fun d hd => ?_⟩
      · rw [strLen_append, strLen_append, e1]
        show 1 + 0 + _ = _
        simp only [List.length_cons]
        omega
      · have hd' : d ∈ (c :: (Str.join ⟨#[]⟩ (z :: zs)).cps.toList) := by
          have : (((⟨#[c]⟩ : Str) ++ (⟨#[]⟩ : Str) ++ Str.join ⟨#[]⟩ (z :: zs)) : Str).cps.toList = c :: (Str.join ⟨#[]⟩ (z :: zs)).cps.toList := by
            show ((#[c] ++ #[]) ++ (Str.join ⟨#[]⟩ (z :: zs)).cps).toList = _
            simp
          rw [this] at hd
          exact hd
        rcases List.mem_cons.mp hd' with q | q
        · omega
        · exact e2 d q
theorem yes_if {σ : L2.St} {H : Hp} {A B : Hp → Prop} (h : A H) : tYes σ H (fun b H3 => if b = true then A H3 else B H3) := by
  unfold tYes
  dsimp only
  rw [if_pos rfl]
  exact h
def spWord : Sp := fun vs H Q _ => ∃ (p : Addr) (B : Int), vs = [.ref p] ∧ PurseAt H p B ∧ 0 ≤ B ∧ B ≤ 999000 ∧ ∀ (x : Str) (H' : Hp), Wd x → But p H H' → PurseAt H' p (B + 40) → Q (.str x) H'
theorem scWord : FnScope ["_law_purse_here", "_law_size", "_law_spin"] ["_law_purse_here"] (defScope sWord) := ⟨rfl, rfl, rfl, by decide +kernel, rfl, by decide +kernel, by decide +kernel⟩
theorem abc_at {j : Nat} (h : j < 26) : ∃ c, atI ("abcdefghijklmnopqrstuvwxyz" : Str).cps.toList (j : Int) = some c ∧ 97 ≤ c ∧ c ≤ 122 := by
  have e : ("abcdefghijklmnopqrstuvwxyz" : Str).cps.toList = (List.range 26).map (· + 97) := by decide +kernel
  refine ⟨j + 97, ?_, by omega, by omega⟩
  rw [e]
  exact atI_nat (by simp [h])
theorem ok_word {f : Addr} {fd : FuncData} (F : Fun K "_law_word" "_law_word" sWord f fd) (T : Blt mg) (D : Cee P w K mg base 2 "_law_draw" ["_law_purse_here", "_law_many"] spDraw) : FnOk P w K mg base CX0 3 f fd ["_law_purse_here"] spWord := by
  refine F.ok scWord (fun vs H Q E h => ?_) (fun cdv A outer s H vs Q E hr h => ?_)
  · obtain ⟨p, B, rfl, _⟩ := h
    rfl
  · obtain ⟨p, B, rfl, hP, B0, B1, k⟩ := h
    have nd := scWord.nd
    refine ⟨_, pss_cons (ps_set (i := 1) nd rfl (Or.inl rfl) (pe_op op_add pe_int (pe_c D hr rfl (pa_cons (pv 0) (pa_cons
        (pe_ifExp (pt_cmpR op_eq (pe_c D hr rfl (pa_cons (pv 0) (pa_cons pe_int pa_nil))) pe_int (nomark _)) pe_int pe_int) pa_nil)))))
      (pss_one (ps_ret (pe_join pe_str
        (pe_lc (own := [("_law_spin", 2)]) (g := gName 2) (tt := tYes) rfl nd (pi_range1 (by rfl) T.range (pa_cons (pv 1) pa_nil)) (blkOk_by (own := [("_law_spin", 2)]) (N := ["_law_purse_here", "_law_size", "_law_spin"]) (sc := defScope sWord) (by decide +kernel))
          (fun _ _ _ _ _ => pg_name (i := 2) nd rfl (Or.inl rfl)) (fun _ _ _ _ _ => pts_nil)
          (fun _ _ _ _ _ => pe_ix ix_str pe_str (pe_c D hr rfl (pa_cons (pv 0) (pa_cons pe_int pa_nil))) (fun _ _ => rfl)))))), ?_⟩
    refine ⟨_, rfl, _, rfl, p, 3, B, rfl, hP, B0, by omega, by decide, by decide, fun r1 H1 bt1 P1 r10 r11 => ?_⟩
    refine ⟨rfl, _, rfl, ?_⟩
    have B0' : (0 : Int) ≤ B + 4 := by omega
    refine ite2 (fun _ => ?_) (fun _ => ?_)
    all_goals
      refine ⟨p, _, B + 4, rfl, P1, B0', by omega, by decide, by decide, fun r2 H2 bt2 P2 r20 r21 => ?_⟩
      refine ⟨_, _, rfl, rfl, ⟨_, rfl⟩, _, rfl, _, rfl, by omega, by omega, fun D hD => ?_⟩
      have ndp : D ≠ p := fun e => by
        obtain ⟨_, _, _, _, q, _⟩ := P2
        rw [← e, hD] at q
        cases q
      refine lc_range (lo := 0) (n := (1 + r2).toNat) (fun i H' => But p H H' ∧ i ≤ 8 ∧ PurseAt H' p (B + 8 + 4 * i) ∧ ∃ ys : List Str, ys.length = i ∧ (∀ y ∈ ys, Letter y) ∧ H' D = some (.lst (ys.map V.str))) ?_ ?_ ?_
      · refine ⟨(bt1.trans bt2).new hD, by omega, ?_, [], rfl, fun y hy => by (cases hy), upd_same⟩
        obtain ⟨a, b, c, d, q, q1, q2, q3, q4⟩ := P2
        exact ⟨a, b, c, d, by rw [upd_ne ndp.symm]; exact q, q1, q2, q3, by omega⟩
      · rintro i H3 hi ⟨bt3, i8, P3, ys, yl, yL, hD3⟩
        refine ⟨rfl, yes_if ?_⟩
        refine ⟨_, rfl, p, 26, _, rfl, P3, by omega, by omega, by decide, by decide, fun r H4 bt4 P4 r0 r1 => ?_⟩
        obtain ⟨j, rfl⟩ : ∃ j : Nat, r = j := ⟨r.toNat, by omega⟩
        obtain ⟨c, hc, c1, c2⟩ := abc_at (j := j) (by omega)
        refine ⟨_, _, c, rfl, rfl, (by decide +kernel), hc, _, bt4 D _ ndp hD3, ?_, ?_⟩
        · rw [List.length_map, yl]
          exact small1000 (by omega)
        · refine ⟨?_, by omega, ?_, ys ++ [⟨#[c]⟩], by simp [yl], ?_, ?_⟩
          · intro b o n h
            have h4 := bt4 b o n (bt3 b o n h)
            have nbD : b ≠ D := ne_of_none ((bt1.trans bt2) b o n h) hD
            rw [upd_ne nbD]
            exact h4
          · obtain ⟨a, b, c, d, q, q1, q2, q3, q4⟩ := P4
            exact ⟨a, b, c, d, by rw [upd_ne ndp.symm]; exact q, q1, q2, q3, by omega⟩
          · intro y hy
            rcases List.mem_append.mp hy with h | h
            · exact yL y h
            · exact ⟨c, List.mem_singleton.mp h, c1, c2⟩
          · rw [List.map_append]
            exact upd_same
      · rintro H3 ⟨bt3, i8, P3, ys, yl, yL, hD3⟩
        obtain ⟨w1, w2⟩ := wd_join ys yL
        refine ⟨_, D, ys, rfl, rfl, .inl (SqL.of hD3), ?_, ?_⟩
        · have e : ∀ zs : List Str, (∀ y ∈ zs, Letter y) → (zs.map (·.length)).sum = zs.length := by
            intro zs
            induction zs with
            | nil => intro _; rfl
            | cons z zs ih =>
              intro h
              obtain ⟨c, rfl, _⟩ := h z List.mem_cons_self
              rw [List.map_cons, List.sum_cons, ih fun y hy => h y (List.mem_cons_of_mem _ hy), List.length_cons]
              show 1 + _ = _
              omega
          rw [e ys yL]
          show ys.length + ys.length * 0 ≤ _
          omega
        · have ej : Txt.join ("" : Str) ys = Str.join ⟨#[]⟩ ys := TL.join_eq _ _
          show Q (.str (Txt.join ("" : Str) ys)) H3
          rw [ej]
          refine k _ _ ⟨by omega, by omega, w2⟩ bt3 ?_
          obtain ⟨a, b, c, d, q, q1, q2, q3, q4⟩ := P3
          exact ⟨a, b, c, d, q, q1, q2, q3, by omega⟩
end
theorem Same.new {H : Hp} {p : Addr} {o : HO} (h : H p = none) : L2.Same H (upd H p o) := fun b u e => by
  rw [upd_ne (ne_of_none e h)]
  exact e
def spPurses (K : PySem.W.Frag) : Sp := fun vs H Q _ => ∃ (a : Addr) (ns : List Int) (m : Int), vs = [.ref a, .int m] ∧ SqL K H a (ns.map V.int) ∧ ns.length ≤ 63 ∧ 1 ≤ m ∧ m ≤ 60 ∧
  ∀ (l : Addr) (ps : List Addr) (H' : Hp), L2.Same H H' → H' l = some (.lst (ps.map V.ref)) → (∀ p ∈ ps, PurseAt H' p 0 ∧ H p = none ∧ p ≠ l) → ps.Nodup → ps ≠ [] → (ps.length : Int) ≤ m → Q (.ref l) H'
section
variable {P : Program} {w : World} {K : PySem.W.Frag} {mg : Str → Option Value} {base : Heap}
theorem PurseAt.mono {H H' : Hp} {p : Addr} {B : Int} (s : L2.Same H H') (h : PurseAt H p B) : PurseAt H' p B := by
  obtain ⟨a, b, c, d, q, r⟩ := h
  exact ⟨a, b, c, d, s _ _ q, r⟩
theorem scPurses : FnScope ["_law_script", "_law_few", "_law_at"] ["_law_script", "_law_few"] (defScope sPurses) := ⟨rfl, rfl, rfl, by decide +kernel, rfl, by decide +kernel, by decide +kernel⟩
theorem ok_purses {f : Addr} {fd : FuncData} (F : Fun K "_law_purses" "_law_purses" sPurses f fd) (B : Blt mg) (Pu : Cee P w K mg base 1 "_law_purse" ["_law_script", "_law_at"] (spPurse K)) : FnOk P w K mg base CX0 2 f fd ["_law_script", "_law_few"] (spPurses K) := by
  refine F.ok scPurses (fun vs H Q E h => ?_) (fun cdv A outer s H vs Q E hr h => ?_)
  · obtain ⟨a, ns, m, rfl, _⟩ := h
    rfl
  · obtain ⟨a, ns, m, rfl, hS, few, m1, m2, k⟩ := h
    have nd := scPurses.nd
    refine ⟨_, pss_one (ps_ret (pe_lc (own := [("_law_at", 2)]) (g := gName 2) (tt := tYes) (te := tCall (spPurse K) [] E0 (tCons (tVar 0) (tCons (tVar 2) tNil))) rfl nd
      (pi_range1 (by rfl) B.range (pa_cons (pe_callB (call_max2 rfl) (by rfl) B.max boot_max (pa_cons pe_int (pa_cons (pe_callB (call_min2 rfl) (by rfl) B.min (by decide +kernel) (pa_cons (pv 1) (pa_cons (pe_callB call_len_seq (by rfl) B.len PySem.boot_len (pa_cons (pv 0) pa_nil)) pa_nil))) pa_nil))) pa_nil))
      (blkOk_by (own := [("_law_at", 2)]) (N := ["_law_script", "_law_few", "_law_at"]) (sc := defScope sPurses) (by decide +kernel))
      (fun _ _ _ _ _ => pg_name (i := 2) nd rfl (Or.inl rfl)) (fun _ _ _ _ _ => pts_nil) (fun _ _ _ _ _ => pe_c Pu hr rfl (pa_cons (pv 0) (pa_cons (pv 2) pa_nil))))), ?_⟩
    refine ⟨_, rfl, _, rfl, _, _, rfl, .inl hS, _, _, rfl, _, _, rfl, ?_⟩
    generalize hn : (if (if (((ns.map V.int).length : Nat) : Int) < m then (((ns.map V.int).length : Nat) : Int) else m) > 1 then (if (((ns.map V.int).length : Nat) : Int) < m then (((ns.map V.int).length : Nat) : Int) else m) else 1) = n
    have n1 : 1 ≤ n ∧ n ≤ m := by
      subst hn
      split <;> split <;> omega
    refine ⟨_, rfl, by omega, by omega, fun R hR => ?_⟩
    refine lc_range (lo := 0) (n := n.toNat) (fun i H' => L2.Same H H' ∧ ∃ ps : List Addr, ps.length = i ∧ H' R = some (.lst (ps.map V.ref)) ∧ (∀ p ∈ ps, PurseAt H' p 0 ∧ H p = none ∧ p ≠ R) ∧ ps.Nodup) ?_ ?_ ?_
    · exact ⟨Same.new hR, [], rfl, upd_same, fun p hp => by (cases hp), List.nodup_nil⟩
    · rintro i H1 hi ⟨s1, ps, pl, h1, hp, pnd⟩
      refine ⟨rfl, yes_if ?_⟩
      refine ⟨_, rfl, _, rfl, a, ns, i, ?_, s1.seq hS, by omega, fun p H2 s2 hp0 P2 => ?_⟩
      · rw [Int.zero_add]
        rfl
      · have hH : H p = none := s1.free hp0
        have pR : p ≠ R := fun e => by
          rw [e, h1] at hp0
          cases hp0
        have hR2 : H2 R = some (.lst (ps.map V.ref)) := s2 _ _ h1
        refine ⟨_, hR2, ?_, ?_, ps ++ [p], by simp [pl], ?_, ?_, ?_⟩
        · rw [List.length_map, pl]
          exact small1000 (by omega)
        · intro b o e
          rw [upd_ne (ne_of_none e hR)]
          exact s2 _ _ (s1 _ _ e)
        · rw [List.map_append]
          exact upd_same
        · intro q hq
          have keep : ∀ {q : Addr}, PurseAt H2 q 0 → q ≠ R → PurseAt (upd H2 R (.lst (ps.map V.ref ++ [.ref p]))) q 0 := by
            rintro q ⟨a, b, c, d, e, r⟩ nq
            exact ⟨a, b, c, d, by rw [upd_ne nq]; exact e, r⟩
          rcases List.mem_append.mp hq with h | h
          · obtain ⟨x1, x2, x3⟩ := hp q h
            exact ⟨keep (x1.mono s2) x3, x2, x3⟩
          · have e := List.mem_singleton.mp h
            subst e
            exact ⟨keep P2 pR, hH, pR⟩
        · refine List.nodup_append.mpr ⟨pnd, by simp, fun x hx y hy e => ?_⟩
          have e2 := List.mem_singleton.mp hy
          subst e2
          subst e
          obtain ⟨⟨a1, b1, c1, d1, q, _⟩, _⟩ := hp x hx
          rw [q] at hp0
          cases hp0
    · rintro H1 ⟨s1, ps, pl, h1, hp, pnd⟩
      refine k R ps H1 s1 h1 hp pnd (fun e => ?_) (by omega)
      rw [e] at pl
      simp at pl
      omega
end
end KT
set_option Elab.async false
set_option linter.all false
set_option maxRecDepth 100000
set_option maxHeartbeats 4000000
namespace KT
open PySem L2 PyProof.Rows
theorem But.fresh {p q : Addr} {H H1 : Hp} {o : HO} (a : But p H H1) (hq : H q = none) : But p H (L2.upd H1 q o) := fun c u n h => by
  rw [upd_ne (ne_of_none h hq)]
  exact a c u n h
theorem But.same {p : Addr} {H H1 H2 : Hp} (a : But p H H1) (s : L2.Same H1 H2) : But p H H2 := fun c u n h => s _ _ (a c u n h)
theorem Same.but {p : Addr} {H H1 H2 : Hp} (s : L2.Same H H1) (a : But p H1 H2) : But p H H2 := fun c u n h => a c u n (s _ _ h)
theorem PurseAt.le {H : Hp} {p : Addr} {B B' : Int} (h : PurseAt H p B) (k : B ≤ B') : PurseAt H p B' := by
  obtain ⟨a, b, c, d, q, q1, q2, q3, q4⟩ := h
  exact ⟨a, b, c, d, q, q1, q2, q3, by omega⟩
theorem PurseAt.at {H H' : Hp} {p : Addr} {B : Int} (e : H' p = H p) (h : PurseAt H p B) : PurseAt H' p B := by
  obtain ⟨a, b, c, d, q, r⟩ := h
  exact ⟨a, b, c, d, by rw [e]; exact q, r⟩
theorem PurseAt.upd {H : Hp} {p q : Addr} {o : HO} {B : Int} (h : PurseAt H p B) (n : p ≠ q) : PurseAt (L2.upd H q o) p B := h.at (upd_ne n)
theorem PurseAt.ne {H : Hp} {p q : Addr} {B : Int} (h : PurseAt H p B) (n : H q = none) : p ≠ q := by
  obtain ⟨a, b, c, d, q, r⟩ := h
  exact ne_of_none q n
theorem But.free {p q : Addr} {H H' : Hp} {B : Int} (a : But p H H') (hp : PurseAt H' p B) (h : H' q = none) : H q = none := by
  have n := hp.ne h
  cases e : H q with
  | none => rfl
  | some o =>
    rw [a q o n.symm e] at h
    cases h
/-- a draw of a number told by a Nat -/
theorem nat_of {r m : Int} (h : 0 ≤ r) : ∃ j : Nat, r = j := ⟨r.toNat, by omega⟩
section
variable {P : Program} {w : World} {K : PySem.W.Frag} {mg : Str → Option Value} {base : Heap}
abbrev DrawC (P : Program) (w : World) (K : PySem.W.Frag) (mg : Str → Option Value) (base : Heap) : Prop := Cee P w K mg base 2 "_law_draw" ["_law_purse_here", "_law_many"] spDraw
theorem take_next' {α : Type} {l : List α} {i : Nat} {x : α} (h : l[i]? = some x) : l.take (i + 1) = l.take i ++ [x] := by
  rw [List.take_add_one, h]
  rfl
def spShuf : Sp := fun vs H Q _ => ∃ (p l : Addr) (xs : List V) (B : Int), vs = [.ref p, .ref l] ∧ p ≠ l ∧ PurseAt H p B ∧ 0 ≤ B ∧ B ≤ 990000 ∧ H l = some (.lst xs) ∧ xs.length ≤ 1000 ∧
  ∀ (q : Addr) (ys : List V) (H' : Hp), H q = none → But p H H' → PurseAt H' p (B + 4 * xs.length) → H' q = some (.lst ys) → ys.Perm xs → Q (.ref q) H'
theorem scShuf : FnScope ["_law_purse_here", "_law_some", "_law_found", "_law_item"] ["_law_purse_here", "_law_some"] (defScope sShuffled) := ⟨rfl, rfl, rfl, by decide +kernel, rfl, by decide +kernel, by decide +kernel⟩
theorem perm_ins {α : Type} (ys : List α) (x : α) (j : Nat) : (ys.take j ++ [x] ++ ys.drop j).Perm (ys ++ [x]) := by
  have e : ys ++ [x] = ys.take j ++ (ys.drop j ++ [x]) := by rw [← List.append_assoc, List.take_append_drop]
  rw [e, List.append_assoc]
  exact List.Perm.append_left _ List.perm_append_comm
theorem ok_shuf {f : Addr} {fd : FuncData} (F : Fun K "_law_shuffled" "_law_shuffled" sShuffled f fd) (T : Blt mg) (D : DrawC P w K mg base) : FnOk P w K mg base CX0 3 f fd ["_law_purse_here", "_law_some"] spShuf := by
  refine F.ok scShuf (fun vs H Q E h => ?_) (fun cdv A outer s H vs Q E hr h => ?_)
  · obtain ⟨p, l, xs, B, rfl, _⟩ := h
    rfl
  · obtain ⟨p, l, xs, B, rfl, npl, hP, B0, B1, hl, few, k⟩ := h
    have nd := scShuf.nd
    refine ⟨_, pss_cons (ps_set (i := 2) nd rfl (Or.inl rfl) (pe_lst pa_nil))
      (pss_cons (ps_for PassesOwn.never rfl (pi_list (pv 1)) (pg_name (i := 3) nd rfl (Or.inl rfl))
        (pss_one (ps_expr (pe_bm PySem.F.plainAttrs_list PySem.F.slot_list_insert PySem.F.type_list_insert mt_insert (pv 2) (pa_cons (pe_c D hr rfl (pa_cons (pv 0) (pa_cons (pe_op op_add (pe_callB call_len_seq (by rfl) T.len PySem.boot_len (pa_cons (pv 2) pa_nil)) pe_int) pa_nil))) (pa_cons (pv 3) pa_nil))))))
      (pss_one (ps_ret (pv 2)))), ?_⟩
    refine ⟨(by show 0 ≤ sizeLine; decide), fun q hq => ?_⟩
    have npq : p ≠ q := hP.ne hq
    have nlq : l ≠ q := ne_of_none hl hq
    refine ⟨_, rfl, l, rfl, ⟨xs, SqL.of ((upd_ne nlq).trans hl)⟩, ?_⟩
    refine for_list (K := K) (a := l) (xs := xs) (fun i σ H' => ∃ (x3 : Option V) (ys : List V), σ = [some (.ref p), some (.ref l), some (.ref q), x3] ∧ But p H H' ∧ PurseAt H' p (B + 4 * i) ∧ H' q = some (.lst ys) ∧ ys.Perm (xs.take i)) ?_ ?_ ?_ ?_
    · exact ⟨_, [], rfl, (But.refl p H).new hq, (hP.upd npq).le (by omega), upd_same, .refl _⟩
    · rintro i σ H' hi ⟨x3, ys, rfl, bt, _⟩
      exact SqL.of (bt l _ npl.symm hl)
    · rintro i x σ H1 hx ⟨x3, ys, rfl, bt, hP1, hq1, pm⟩
      have hi : i < xs.length := (List.getElem?_eq_some_iff.mp hx).1
      have ly : ys.length = i := by rw [pm.length_eq, List.length_take]; omega
      refine ⟨_, rfl, .inl ⟨rfl, _, SqL.of hq1⟩, ?_⟩
      refine ⟨_, rfl, _, rfl, q, _, rfl, .inl (SqL.of hq1), _, _, rfl, rfl, p, _, B + 4 * i, rfl, hP1, by omega, by omega, by omega, by omega, fun r H2 bt2 hP2 r0 r1 => ?_⟩
      obtain ⟨j, rfl⟩ := nat_of (m := 0) r0
      refine ⟨_, rfl, q, ys, _, x, rfl, rfl, bt2 q _ npq.symm hq1, by rw [ly]; exact small1000 (by omega), by omega, by omega, ?_⟩
      refine ⟨_, _, rfl, (bt.trans bt2).fresh hq, (hP2.upd npq).le (by omega), upd_same, ?_⟩
      rw [take_next' hx]
      exact (perm_ins ys x _).trans (pm.append_right _)
    · rintro σ H1 ⟨x3, ys, rfl, bt, hP1, hq1, pm⟩
      refine ⟨_, rfl, k q ys H1 hq bt hP1 hq1 ?_⟩
      rwa [List.take_length] at pm
end
end KT
set_option Elab.async false
set_option linter.all false
set_option maxRecDepth 100000
set_option maxHeartbeats 4000000
namespace KT
open PySem L2 PyProof.Rows
theorem at_slots {t : TS} {D : Ends} {σ σ' : L2.St} {H : Hp} (e : σ = σ') (h : t D σ' H) : t D σ H := by
  subst e
  exact h
theorem at_name {i : Nat} {v : V} {σ σ' : L2.St} {H : Hp} {Q : L2.St → Hp → Prop} (e : σ.set i (some v) = σ') (h : Q σ' H) : gName i v σ H Q := by
  subst e
  exact h
section
variable {P : Program} {w : World} {K : PySem.W.Frag} {mg : Str → Option Value} {base : Heap}
def spWords : Sp := fun vs H Q _ => ∃ (p : Addr) (m B : Int), vs = [.ref p, .int m] ∧ PurseAt H p B ∧ 0 ≤ B ∧ B ≤ 980000 ∧ 1 ≤ m ∧ m ≤ 12 ∧
  ∀ (q : Addr) (ws : List Str) (H' : Hp), H q = none → But p H H' → PurseAt H' p (B + 1000) → H' q = some (.lst (ws.map V.str)) → (ws.length : Int) = m → (∀ x ∈ ws, Wd x) → ws.Nodup → Q (.ref q) H'
abbrev nWords : List Str := ["_law_purse_here", "_law_many", "_law_base", "_law_near", "_law_spot", "_law_found", "_law_spin", "_law_word_here", "_law_letter"]
theorem scWords : FnScope nWords ["_law_purse_here", "_law_many"] (defScope sWords) := ⟨rfl, rfl, rfl, by decide +kernel, rfl, by decide +kernel, by decide +kernel⟩
theorem abc_signs : SmR.signs "abcdefghijklmnopqrstuvwxyz" = (List.range 26).map fun j => (⟨#[97 + j]⟩ : Str) := by decide +kernel
theorem inV_strs (x : Str) (ws : List Str) : inV (.str x) (ws.map V.str) = decide (x ∈ ws) := by
  unfold inV
  rw [List.any_map]
  induction ws with
  | nil => rfl
  | cons y ys ih =>
    rw [List.any_cons, ih]
    show ((y == x) || _) = _
    by_cases e : y = x
    · subst e; simp
    · have e2 : ¬ x = y := fun z => e z.symm
      simp [e, e2]
theorem flat_strs (ws : List Str) : (ws.map V.str).all flatV = true := by
  rw [List.all_map]
  exact List.all_eq_true.mpr fun _ _ => rfl
theorem abc_nodup : (SmR.signs "abcdefghijklmnopqrstuvwxyz").Nodup := by rw [abc_signs]; decide +kernel
theorem abc_len : (SmR.signs "abcdefghijklmnopqrstuvwxyz").length = 26 := by decide +kernel
theorem abc_wd : ∀ x ∈ SmR.signs "abcdefghijklmnopqrstuvwxyz", Wd x := by
  intro x hx
  rw [abc_signs] at hx
  obtain ⟨j, hj, rfl⟩ := List.mem_map.mp hx
  have h26 := List.mem_range.mp hj
  refine ⟨by show 1 ≤ 1; decide, by show 1 ≤ 8; decide, fun c hc => ?_⟩
  have e : c = 97 + j := by simpa using hc
  omega
/-- a letter that is no word yet -/
theorem abc_free {ws : List Str} (h : ws.length < 26) : ∃ y ys, (SmR.signs "abcdefghijklmnopqrstuvwxyz").filter (fun y => decide (y ∉ ws)) = y :: ys ∧ Wd y ∧ y ∉ ws := by
  cases e : (SmR.signs "abcdefghijklmnopqrstuvwxyz").filter (fun y => decide (y ∉ ws)) with
  | nil =>
    have := List.Nodup.length_le_of_subset abc_nodup (l₂ := ws) fun x hx => Classical.byContradiction fun n => by
      have m : x ∈ (SmR.signs "abcdefghijklmnopqrstuvwxyz").filter (fun y => decide (y ∉ ws)) := List.mem_filter.mpr ⟨hx, decide_eq_true n⟩
      rw [e] at m
      cases m
    rw [abc_len] at this
    omega
  | cons y ys =>
    have m : y ∈ (SmR.signs "abcdefghijklmnopqrstuvwxyz").filter (fun y => decide (y ∉ ws)) := by rw [e]; exact List.mem_cons_self
    obtain ⟨m1, m2⟩ := List.mem_filter.mp m
    exact ⟨y, ys, rfl, abc_wd y m1, of_decide_eq_true m2⟩
/-- a word with one letter changed -/
theorem near_wd {z : Str} {j c : Nat} (h : Wd z) (hj : j < z.length) (c1 : 97 ≤ c) (c2 : c ≤ 122) : Wd (cutS z none (some (j : Int)) ++ ⟨#[c]⟩ ++ cutS z (some ((j : Int) + 1)) none) ∧ (cutS z none (some (j : Int))).length = j ∧ (cutS z (some ((j : Int) + 1)) none).length = z.length - (j + 1) := by
  obtain ⟨h1, h2, h3⟩ := h
  have zl : z.cps.toList.length = z.length := Array.length_toList
  have e1 : (cutS z none (some (j : Int))).cps.toList = z.cps.toList.take j := by
    unfold cutS
    show (z.cps.toList.drop 0).take (HT.sIx z.length z.length (some (j : Int)) - 0) = _
    rw [HT.sIx_nat, List.drop_zero, Nat.sub_zero, Nat.min_eq_left (by omega)]
  have e2 : (cutS z (some ((j : Int) + 1)) none).cps.toList = z.cps.toList.drop (j + 1) := by
    unfold cutS
    show (z.cps.toList.drop (HT.sIx z.length 0 (some ((j : Int) + 1)))).take (HT.sIx z.length z.length none - HT.sIx z.length 0 (some ((j : Int) + 1))) = _
    have ej : ((j : Int) + 1) = ((j + 1 : Nat) : Int) := by omega
    rw [ej, HT.sIx_nat, Nat.min_eq_left (by omega)]
    show (z.cps.toList.drop (j + 1)).take (z.length - (j + 1)) = _
    rw [List.take_of_length_le (by rw [List.length_drop, zl]; omega)]
  have l1 : (cutS z none (some (j : Int))).length = j := by
    show (cutS z none (some (j : Int))).cps.size = j
    rw [← Array.length_toList, e1, List.length_take, zl]; omega
  have l2 : (cutS z (some ((j : Int) + 1)) none).length = z.length - (j + 1) := by
    show (cutS z (some ((j : Int) + 1)) none).cps.size = _
    rw [← Array.length_toList, e2, List.length_drop, zl]
  refine ⟨⟨?_, ?_, fun d hd => ?_⟩, l1, l2⟩
  · rw [strLen_append, strLen_append, l1, l2]
    show 1 ≤ j + 1 + _
    omega
  · rw [strLen_append, strLen_append, l1, l2]
    show j + 1 + (z.length - (j + 1)) ≤ 8
    omega
  · have e : (cutS z none (some (j : Int)) ++ (⟨#[c]⟩ : Str) ++ cutS z (some ((j : Int) + 1)) none).cps.toList = z.cps.toList.take j ++ [c] ++ z.cps.toList.drop (j + 1) := by
      show (((cutS z none (some (j : Int))).cps ++ #[c]) ++ (cutS z (some ((j : Int) + 1)) none).cps).toList = _
      rw [Array.toList_append, Array.toList_append, e1, e2]
    rw [e] at hd
    rcases List.mem_append.mp hd with q | q
    · rcases List.mem_append.mp q with q | q
      · exact h3 d (List.mem_of_mem_take q)
      · have := List.mem_singleton.mp q
        omega
    · exact h3 d (List.mem_of_mem_drop q)
theorem ok_words {f : Addr} {fd : FuncData} (F : Fun K "_law_words" "_law_words" sWords f fd) (T : Blt mg) (hl : mg "list" = none) (D : DrawC P w K mg base) (W : Cee P w K mg base 3 "_law_word" ["_law_purse_here"] spWord) : FnOk P w K mg base CX0 4 f fd ["_law_purse_here", "_law_many"] spWords := by
  refine F.ok scWords (fun vs H Q E h => ?_) (fun cdv A outer s H vs Q E hr h => ?_)
  · obtain ⟨p, m, B, rfl, _⟩ := h
    rfl
  · obtain ⟨p, m, B, rfl, hP, B0, B1, m1, m2, k⟩ := h
    have nd := scWords.nd
    refine ⟨_, pss_cons (ps_par (i := 2) (j := 3) rfl nd rfl rfl (by decide) rfl rfl (pa_cons (pe_c W hr rfl (pa_cons (pv 0) pa_nil)) (pa_cons (pe_cmpR op_eq (pe_c D hr rfl (pa_cons (pv 0) (pa_cons pe_int pa_nil))) pe_int (nomark _)) pa_nil)) (by rfl))
      (pss_cons (ps_asg (pe_tup (pa_cons (pe_c D hr rfl (pa_cons (pv 0) (pa_cons (pe_callB call_len (by rfl) T.len PySem.boot_len (pa_cons (pv 2) pa_nil)) pa_nil))) (pa_cons (pe_lst pa_nil) pa_nil))) (pg_tup rfl (pgs_cons (pg_name (i := 4) nd rfl (Or.inl rfl)) (pgs_cons (pg_name (i := 5) nd rfl (Or.inr rfl)) pgs_nil))))
      (pss_cons (ps_for PassesOwn.never rfl (pi_range1 rfl T.range (pa_cons (pv 1) pa_nil)) (pg_name (i := 6) nd rfl (Or.inl rfl))
        (pss_cons (ps_set (i := 7) nd rfl (Or.inl rfl) (pe_op op_add_str (pe_op op_add_str (pe_slice sl_str (pv 2) po_none (po_some (pv 4))) (pe_ix ix_str pe_str (pe_c D hr rfl (pa_cons (pv 0) (pa_cons pe_int pa_nil))) (fun _ _ => rfl)))
            (pe_slice sl_str (pv 2) (po_some (pe_op op_add (pv 4) pe_int)) po_none)))
        (pss_cons (ps_if (pt_not (pt_val (pv 3))) (pss_one (ps_set (i := 7) nd rfl (Or.inl rfl) (pe_c W hr rfl (pa_cons (pv 0) pa_nil)))) pss_nil)
        (pss_cons (ps_if (pt_cmpR op_in_seq (pv 7) (pv 5) (by rfl)) (pss_one (ps_set (i := 7) nd rfl (Or.inl rfl) (pe_ix ix_list
            (pe_lc (own := [("_law_letter", 8)]) (g := gName 8) (tt := tTest (tOp (rIn K true) (tVar 8) (tVar 5))) (te := tVar 8) rfl nd (pi_list (pe_callTy (SmR.cr_listStr rfl) (by rfl) hl (by decide +kernel) (pa_cons pe_str pa_nil))) (blkOk_by (own := [("_law_letter", 8)]) (N := nWords) (sc := defScope sWords) (by decide +kernel))
              (fun _ _ _ _ _ => pg_name (i := 8) nd rfl (Or.inl rfl)) (fun _ _ _ _ _ => pts_one (pt_cmpR op_notIn_seq (pv 8) (pv 5) (by rfl))) (fun _ _ _ _ _ => pv 8)) pe_int (fun _ _ => rfl)))) pss_nil)
        (pss_one (ps_expr (pe_bm PySem.F.plainAttrs_list PySem.F.slot_list_append PySem.F.type_list_append mt_append (pv 5) (pa_cons (pv 7) pa_nil))))))))
      (pss_one (ps_ret (pv 5))))), ?_⟩
    refine ⟨_, rfl, p, B, rfl, hP, B0, by omega, fun base H1 hbase bt1 hP1 => ?_⟩
    refine ⟨_, rfl, p, 3, _, rfl, hP1, by omega, by omega, by decide, by decide, fun r1 H2 bt2 hP2 _ _ => ?_⟩
    refine ⟨rfl, _, _, rfl, ?_⟩
    generalize hnear : decide (V.int r1 = V.int 0) = near
    refine at_slots (σ' := [some (.ref p), some (.int m), some (.str base), some (.bl near), none, none, none, none, none]) rfl ?_
    have lb := hbase.2.1
    refine ⟨_, rfl, _, rfl, _, base.length, rfl, ⟨by rw [sizeLine_eq]; omega, rfl⟩, ?_⟩
    refine ⟨p, base.length, _, rfl, hP2, by omega, by omega, ?_, by omega, fun r2 H3 bt3 hP3 r20 r21 => ?_⟩
    · have := hbase.1
      omega
    refine ⟨(by show 0 ≤ sizeLine; decide), fun q hq => ?_⟩
    have bt := bt1.trans (bt2.trans bt3)
    have hq0 : H q = none := bt.free hP3 hq
    have hP4 := hP3.upd (q := q) (o := .lst []) (hP3.ne hq)
    have e4 : upd H3 q (.lst []) q = some (.lst []) := upd_same
    have bt4 : But p H (upd H3 q (.lst [])) := bt.new hq
    generalize upd H3 q (.lst []) = G4 at hP4 e4 bt4 ⊢
    refine ⟨(by show 2 ≤ sizeLine; decide), fun t ht => ?_⟩
    have hP5 := hP4.upd (q := t) (o := .tup [.int r2, .ref q]) (hP4.ne ht)
    have e5 : upd G4 t (.tup [.int r2, .ref q]) q = some (.lst []) := (upd_ne (ne_of_none e4 ht)).trans e4
    have e6 : upd G4 t (.tup [.int r2, .ref q]) t = some (.tup [.int r2, .ref q]) := upd_same
    have bt5 : But p H (upd G4 t (.tup [.int r2, .ref q])) := bt4.new ht
    generalize upd G4 t (.tup [.int r2, .ref q]) = G5 at hP5 e5 e6 bt5 ⊢
    refine ⟨t, _, rfl, SqT.of e6, rfl, _, _, rfl, ?_⟩
    refine at_name (σ' := [some (.ref p), some (.int m), some (.str base), some (.bl near), some (.int r2), none, none, none, none]) rfl ?_
    refine ⟨_, _, rfl, ?_⟩
    refine at_name (σ' := [some (.ref p), some (.int m), some (.str base), some (.bl near), some (.int r2), some (.ref q), none, none, none]) rfl ?_
    refine ⟨rfl, ?_⟩
    refine ⟨_, rfl, m, rfl, by omega, by omega, ?_⟩
    obtain ⟨sp, rfl⟩ := nat_of (m := 0) r20
    refine for_range (lo := 0) (n := m.toNat) (fun i σ H' => ∃ (x6 x7 x8 : Option V) (ws : List Str), σ = [some (.ref p), some (.int m), some (.str base), some (.bl near), some (.int sp), some (.ref q), x6, x7, x8] ∧ But p H H' ∧ PurseAt H' p (B + 48 + 44 * i) ∧ H' q = some (.lst (ws.map V.str)) ∧ ws.length = i ∧ (∀ x ∈ ws, Wd x) ∧ ws.Nodup) ?_ ?_ ?_
    · exact ⟨_, _, _, [], rfl, bt5, hP5.le (by omega), e5, rfl, fun x hx => by (cases hx), List.nodup_nil⟩
    · rintro i σ H6 hi ⟨x6, x7, x8, ws, rfl, bt6, hP6, hq6, lw, wd, ndw⟩
      have npq : p ≠ q := fun e => by
        obtain ⟨a, b, c, d, h1, _⟩ := hP6
        rw [e, hq6] at h1
        have e1 := congrArg (fun o => match o with | some (.lst xs) => xs.head? | _ => none) h1
        cases ws <;> cases e1
      refine ⟨_, rfl, _, rfl, _, rfl, _, rfl, by rw [sizeLine_eq]; omega, ?_⟩
      refine ⟨_, rfl, p, 26, _, rfl, hP6, by omega, by omega, by decide, by decide, fun r3 H7 bt7 hP7 r30 r31 => ?_⟩
      obtain ⟨j, rfl⟩ := nat_of (m := 0) r30
      obtain ⟨c, hc, c1, c2⟩ := abc_at (j := j) (by omega)
      refine ⟨_, _, c, rfl, rfl, by decide +kernel, hc, ?_⟩
      obtain ⟨wn, ln⟩ := near_wd hbase (j := sp) (by omega) c1 c2
      have l1c : (⟨#[c]⟩ : Str).length = 1 := rfl
      refine ⟨_, _, rfl, rfl, by rw [sizeLine_eq, l1c, ln.1]; omega, ?_⟩
      refine ⟨_, rfl, _, rfl, _, _, rfl, rfl, _, rfl, _, rfl, by rw [sizeLine_eq]; omega, ?_⟩
      refine ⟨_, _, rfl, rfl, by rw [sizeLine_eq, strLen_append, l1c, ln.1, ln.2]; omega, ?_⟩
      generalize hw0 : cutS base none (some (sp : Int)) ++ (⟨#[c]⟩ : Str) ++ cutS base (some ((sp : Int) + 1)) none = w0 at wn ⊢
      refine at_name (σ' := [some (.ref p), some (.int m), some (.str base), some (.bl near), some (.int sp), some (.ref q), some (.int (0 + i)), some (.str w0), x8]) rfl ?_
      have hq7 : H7 q = some (.lst (ws.map V.str)) := bt7 q _ npq.symm hq6
      have bt67 := bt6.trans bt7
      refine ⟨_, rfl, near, rfl, ?_⟩
      cases near
      · refine iteT ?_
        refine ⟨_, rfl, p, _, rfl, hP7, by omega, by omega, fun w1 H8 wd1 bt8 hP8' => ?_⟩
        refine at_name (σ' := [some (.ref p), some (.int m), some (.str base), some (.bl false), some (.int sp), some (.ref q), some (.int (0 + i)), some (.str w1), x8]) rfl ?_
        have hP8 : PurseAt H8 p (B + 48 + 44 * i + 44) := hP8'.le (by omega)
        have hq8 : H8 q = some (.lst (ws.map V.str)) := bt8 q _ npq.symm hq7
        have btH := bt67.trans bt8
        refine ⟨_, rfl, _, rfl, q, _, rfl, .inl (SqL.of hq8), rfl, flat_strs ws, _, rfl, ?_⟩
        rw [if_neg Bool.false_ne_true, inV_strs]
        refine ite2 (fun hin => ?_) (fun hin => ?_)
        · refine ⟨"abcdefghijklmnopqrstuvwxyz", rfl, by decide +kernel, fun L hL => ?_⟩
          have hP9 := hP8.upd (q := L) (o := .lst ((SmR.signs "abcdefghijklmnopqrstuvwxyz").map V.str)) (hP8.ne hL)
          have hq9 : upd H8 L (.lst ((SmR.signs "abcdefghijklmnopqrstuvwxyz").map V.str)) q = some (.lst (ws.map V.str)) := (upd_ne (ne_of_none hq8 hL)).trans hq8
          have hL9 : upd H8 L (.lst ((SmR.signs "abcdefghijklmnopqrstuvwxyz").map V.str)) L = _ := upd_same
          have bt9 : But p H (upd H8 L (.lst ((SmR.signs "abcdefghijklmnopqrstuvwxyz").map V.str))) := btH.new hL
          generalize upd H8 L (.lst ((SmR.signs "abcdefghijklmnopqrstuvwxyz").map V.str)) = H9 at hP9 hq9 hL9 bt9 ⊢
          refine ⟨L, rfl, ⟨_, SqL.of hL9⟩, fun D hD => ?_⟩
          refine lc_list (K := K) (a := L) (xs := (SmR.signs "abcdefghijklmnopqrstuvwxyz").map V.str) (fun n H' => L2.Same H9 H' ∧ H' D = some (.lst ((((SmR.signs "abcdefghijklmnopqrstuvwxyz").take n).filter fun y => decide (y ∉ ws)).map V.str))) ?_ ?_ ?_ ?_
          · exact ⟨Same.new hD, upd_same⟩
          · rintro n H' _ ⟨sm, _⟩
            exact SqL.of (sm _ _ hL9)
          · rintro n x H' hx ⟨sm, hD'⟩
            obtain ⟨y, hy, rfl⟩ : ∃ y, (SmR.signs "abcdefghijklmnopqrstuvwxyz")[n]? = some y ∧ x = .str y := by
              rw [List.getElem?_map] at hx
              cases e : (SmR.signs "abcdefghijklmnopqrstuvwxyz")[n]? with
              | none => rw [e] at hx; cases hx
              | some y => rw [e] at hx; exact ⟨y, rfl, (Option.some.inj hx).symm⟩
            refine ⟨rfl, ?_⟩
            refine ⟨_, rfl, _, rfl, q, _, rfl, .inl (SqL.of (sm _ _ hq9)), rfl, flat_strs ws, _, rfl, ?_⟩
            rw [if_pos rfl, inV_strs]
            rw [take_next' hy, List.filter_append]
            by_cases hy2 : y ∈ ws
            · refine iteNS hy2 ⟨sm, ?_⟩
              rw [List.filter_cons_of_neg (by simpa using hy2), List.filter_nil, List.append_nil]
              exact hD'
            · rw [decide_eq_false hy2]
              refine ⟨_, rfl, _, hD', ?_, ?_, ?_⟩
              · rw [List.length_map]
                refine small1000 (Nat.le_trans (List.length_filter_le _ _) ?_)
                rw [List.length_take, abc_len]; omega
              · intro b o e
                rw [upd_ne (fun z => by rw [z, hD] at e; cases e)]
                exact sm _ _ e
              · rw [List.filter_cons_of_pos (by simpa using hy2), List.filter_nil, List.map_append]
                exact upd_same
          · rintro H' ⟨sm, hD'⟩
            rw [List.length_map, List.take_length] at hD'
            obtain ⟨y, ys, ey, wy, ny⟩ := abc_free (ws := ws) (by omega)
            rw [ey] at hD'
            refine ⟨D, _, 0, .str y, rfl, rfl, SqL.of hD', atI_nat (j := 0) rfl, ?_⟩
            refine at_name (σ' := [some (.ref p), some (.int m), some (.str base), some (.bl false), some (.int sp), some (.ref q), some (.int (0 + i)), some (.str y), x8]) rfl ?_
            have hqE := sm _ _ hq9
            have hPE := hP9.mono sm
            refine ⟨_, rfl, .inl ⟨rfl, _, SqL.of hqE⟩, _, rfl, q, _, _, rfl, rfl, hqE, by rw [List.length_map]; exact small1000 (by omega), ?_⟩
            refine ⟨_, _, _, ws ++ [y], rfl, (bt9.same sm).fresh hq0, (hPE.upd npq).le (by omega), by rw [List.map_append]; exact upd_same, by simp [lw], ?_, ?_⟩
            · intro x hx
              rcases List.mem_append.mp hx with h | h
              · exact wd x h
              · rw [List.mem_singleton.mp h]; exact wy
            · exact List.nodup_append.mpr ⟨ndw, by simp, fun a ha b hb e => ny (by rw [← List.mem_singleton.mp hb, ← e]; exact ha)⟩
        · refine ⟨_, rfl, .inl ⟨rfl, _, SqL.of hq8⟩, _, rfl, q, _, _, rfl, rfl, hq8, by rw [List.length_map]; exact small1000 (by omega), ?_⟩
          refine ⟨_, _, _, ws ++ [w1], rfl, btH.fresh hq0, (hP8.upd npq).le (by omega), by rw [List.map_append]; exact upd_same, by simp [lw], ?_, ?_⟩
          · intro x hx
            rcases List.mem_append.mp hx with h | h
            · exact wd x h
            · rw [List.mem_singleton.mp h]; exact wd1
          · exact List.nodup_append.mpr ⟨ndw, by simp, fun a ha b hb e => (fun m => hin (decide_eq_true m)) (by rw [← List.mem_singleton.mp hb, ← e]; exact ha)⟩
      · refine iteF ?_
        obtain ⟨w1, rfl⟩ : ∃ z, z = w0 := ⟨_, rfl⟩
        obtain ⟨H8, rfl⟩ : ∃ z, z = H7 := ⟨_, rfl⟩
        have wd1 := wn
        have hP8 : PurseAt H8 p (B + 48 + 44 * i + 44) := hP7.le (by omega)
        have hq8 := hq7
        have btH := bt67
        refine ⟨_, rfl, _, rfl, q, _, rfl, .inl (SqL.of hq8), rfl, flat_strs ws, _, rfl, ?_⟩
        rw [if_neg Bool.false_ne_true, inV_strs]
        refine ite2 (fun hin => ?_) (fun hin => ?_)
        · refine ⟨"abcdefghijklmnopqrstuvwxyz", rfl, by decide +kernel, fun L hL => ?_⟩
          have hP9 := hP8.upd (q := L) (o := .lst ((SmR.signs "abcdefghijklmnopqrstuvwxyz").map V.str)) (hP8.ne hL)
          have hq9 : upd H8 L (.lst ((SmR.signs "abcdefghijklmnopqrstuvwxyz").map V.str)) q = some (.lst (ws.map V.str)) := (upd_ne (ne_of_none hq8 hL)).trans hq8
          have hL9 : upd H8 L (.lst ((SmR.signs "abcdefghijklmnopqrstuvwxyz").map V.str)) L = _ := upd_same
          have bt9 : But p H (upd H8 L (.lst ((SmR.signs "abcdefghijklmnopqrstuvwxyz").map V.str))) := btH.new hL
          generalize upd H8 L (.lst ((SmR.signs "abcdefghijklmnopqrstuvwxyz").map V.str)) = H9 at hP9 hq9 hL9 bt9 ⊢
          refine ⟨L, rfl, ⟨_, SqL.of hL9⟩, fun D hD => ?_⟩
          refine lc_list (K := K) (a := L) (xs := (SmR.signs "abcdefghijklmnopqrstuvwxyz").map V.str) (fun n H' => L2.Same H9 H' ∧ H' D = some (.lst ((((SmR.signs "abcdefghijklmnopqrstuvwxyz").take n).filter fun y => decide (y ∉ ws)).map V.str))) ?_ ?_ ?_ ?_
          · exact ⟨Same.new hD, upd_same⟩
          · rintro n H' _ ⟨sm, _⟩
            exact SqL.of (sm _ _ hL9)
          · rintro n x H' hx ⟨sm, hD'⟩
            obtain ⟨y, hy, rfl⟩ : ∃ y, (SmR.signs "abcdefghijklmnopqrstuvwxyz")[n]? = some y ∧ x = .str y := by
              rw [List.getElem?_map] at hx
              cases e : (SmR.signs "abcdefghijklmnopqrstuvwxyz")[n]? with
              | none => rw [e] at hx; cases hx
              | some y => rw [e] at hx; exact ⟨y, rfl, (Option.some.inj hx).symm⟩
            refine ⟨rfl, ?_⟩
            refine ⟨_, rfl, _, rfl, q, _, rfl, .inl (SqL.of (sm _ _ hq9)), rfl, flat_strs ws, _, rfl, ?_⟩
            rw [if_pos rfl, inV_strs]
            rw [take_next' hy, List.filter_append]
            by_cases hy2 : y ∈ ws
            · refine iteNS hy2 ⟨sm, ?_⟩
              rw [List.filter_cons_of_neg (by simpa using hy2), List.filter_nil, List.append_nil]
              exact hD'
            · rw [decide_eq_false hy2]
              refine ⟨_, rfl, _, hD', ?_, ?_, ?_⟩
              · rw [List.length_map]
                refine small1000 (Nat.le_trans (List.length_filter_le _ _) ?_)
                rw [List.length_take, abc_len]; omega
              · intro b o e
                rw [upd_ne (fun z => by rw [z, hD] at e; cases e)]
                exact sm _ _ e
              · rw [List.filter_cons_of_pos (by simpa using hy2), List.filter_nil, List.map_append]
                exact upd_same
          · rintro H' ⟨sm, hD'⟩
            rw [List.length_map, List.take_length] at hD'
            obtain ⟨y, ys, ey, wy, ny⟩ := abc_free (ws := ws) (by omega)
            rw [ey] at hD'
            refine ⟨D, _, 0, .str y, rfl, rfl, SqL.of hD', atI_nat (j := 0) rfl, ?_⟩
            refine at_name (σ' := [some (.ref p), some (.int m), some (.str base), some (.bl true), some (.int sp), some (.ref q), some (.int (0 + i)), some (.str y), x8]) rfl ?_
            have hqE := sm _ _ hq9
            have hPE := hP9.mono sm
            refine ⟨_, rfl, .inl ⟨rfl, _, SqL.of hqE⟩, _, rfl, q, _, _, rfl, rfl, hqE, by rw [List.length_map]; exact small1000 (by omega), ?_⟩
            refine ⟨_, _, _, ws ++ [y], rfl, (bt9.same sm).fresh hq0, (hPE.upd npq).le (by omega), by rw [List.map_append]; exact upd_same, by simp [lw], ?_, ?_⟩
            · intro x hx
              rcases List.mem_append.mp hx with h | h
              · exact wd x h
              · rw [List.mem_singleton.mp h]; exact wy
            · exact List.nodup_append.mpr ⟨ndw, by simp, fun a ha b hb e => ny (by rw [← List.mem_singleton.mp hb, ← e]; exact ha)⟩
        · refine ⟨_, rfl, .inl ⟨rfl, _, SqL.of hq8⟩, _, rfl, q, _, _, rfl, rfl, hq8, by rw [List.length_map]; exact small1000 (by omega), ?_⟩
          refine ⟨_, _, _, ws ++ [w1], rfl, btH.fresh hq0, (hP8.upd npq).le (by omega), by rw [List.map_append]; exact upd_same, by simp [lw], ?_, ?_⟩
          · intro x hx
            rcases List.mem_append.mp hx with h | h
            · exact wd x h
            · rw [List.mem_singleton.mp h]; exact wd1
          · exact List.nodup_append.mpr ⟨ndw, by simp, fun a ha b hb e => (fun m => hin (decide_eq_true m)) (by rw [← List.mem_singleton.mp hb, ← e]; exact ha)⟩
    · rintro σ H6 ⟨x6, x7, x8, ws, rfl, bt6, hP6, hq6, lw, wd, ndw⟩
      exact ⟨_, rfl, k q ws H6 hq0 bt6 (hP6.le (by omega)) hq6 (by omega) wd ndw⟩
end
end KT
set_option Elab.async false
set_option linter.all false
set_option maxRecDepth 100000
set_option maxHeartbeats 2000000
namespace DTp
open PySem PySem.Spec PySem.W PyProof.Rows L2
section
variable {prog : Program} {w : World} {A : Around} {E : Value → Shared → Prop} {s : Shared} {r d : Addr} {es : Array DictEntry} {ep : Nat}
theorem listI {Q : Value → Shared → Prop} (hh : A.handled = none) (hv : s.heap.IsItemsView r d) (hm : DT.Raw s.heap d es ep) (hn : es.size ≤ sizeLine)
    (hQ : ∀ h' tk acc c as, (∀ b o, s.heap.get? b = some o → h'.get? b = some o) → h'.get? s.heap.objs.size = some { cls := .type "list", dict := none, data := .seq acc c, slots := #[] } → as.length = es.size → DT.Made es s.heap.objs.size h' as → acc.toList = as.map Value.ref →
      Q (.ref s.heap.objs.size) { s with heap := h', toks := tk }) : wpAny (model prog w) A (call (.type "list") [.ref r]) Q E s := by
  refine callType_codes (Q₁ := fun obj s₁ => obj = .ref s.heap.objs.size ∧ s₁ = { s with heap := s.heap.push { cls := .type "list", data := .seq #[] } }) PySem.F.called_list (PySem.F.typeCall_list_1 _) PySem.F.entry_list_init (code_list_new _ ⟨rfl, rfl⟩) fun obj s₁ h₁ => ?_
  obtain ⟨rfl, rfl⟩ := h₁
  have hS : (s.heap.push { cls := .type "list", data := .seq #[] }).get? s.heap.objs.size = some { cls := .type "list", data := .seq #[] } := Heap.get?_push_size _ rfl
  have hr : r < s.heap.objs.size := let ⟨_, ho, _⟩ := hv; Heap.lt_size ho
  have hd : d < s.heap.objs.size := hm.lt
  have p0 : ∀ b o, s.heap.get? b = some o → (s.heap.push { cls := .type "list", data := .seq #[] }).get? b = some o := fun b o e => Heap.get?_push_of_some _ e
  refine ⟨⟨_, hS, rfl⟩, PySem.F.args_list_init_2 _ _, ?_⟩
  unfold Builtin.«list.__init__»
  refine wpAny_bind ?_
  unfold Builtin.List.listItems
  refine wpAny_bind (wpAny_seqItems hS rfl (wpAny_pure ?_))
  refine wpAny_bind (m := updateSeq s.heap.objs.size fun _ => #[]) (wpAny_updateSeq hS rfl ?_)
  have hS2 := Heap.get?_update_self (Obj.mapSeq (fun _ => (#[] : Array Value))) hS rfl
  have oth : ∀ b o, b ≠ s.heap.objs.size → s.heap.get? b = some o → ((s.heap.push { cls := .type "list", data := .seq #[] }).update s.heap.objs.size (Obj.mapSeq (fun _ => (#[] : Array Value)))).get? b = some o := fun b o hb e => (Heap.get?_update_other _ _ (Ne.symm hb)).trans (p0 b o e)
  refine wpAny_bind (wpAny_letGo ?_)
  refine DT.extI (es := es) (ep := ep) (A := A.in1) hh (let ⟨o, ho, x⟩ := hv; ⟨o, oth r o (Nat.ne_of_lt hr) ho, x⟩) (hm.at' fun o e => oth d o (Nat.ne_of_lt hd) e) _ (Nat.ne_of_gt hr) (Nat.ne_of_lt hd) .none _ hS2 (fun h' tk acc c as hk hS' hl hG hacc => ?_) hn
  exact ⟨rfl, hQ h' tk acc c as (fun b o e => hk b o (Nat.ne_of_lt (Heap.lt_size e)) (oth b o (Nat.ne_of_lt (Heap.lt_size e)) e)) hS' hl (hG.low (Nat.le_of_lt (Heap.lt_size hS2))) hacc⟩
end
/-- the entry's tuple -/
def ItT (H : Hp) : List Addr → List (List Key × V) → Prop := Paired fun t kv => ∃ b, H t = some (.tup [.ref b, kv.2]) ∧ H b = some (.tup (kv.1.map kV))
def rListIt : List V → Hp → VK → Prop := fun vs H Q => ∃ (p a : Addr) (kvs : List (List Key × V)), vs = [.ref p] ∧ H p = some (L2.DX.itemsO p a) ∧ Rd H a (.dT kvs) ∧
  ∀ (H' : Hp) (l : Addr) (ts : List Addr), Same H H' → H l = none → (∀ t ∈ ts, H t = none) → l ∉ ts → ts.Nodup → H' l = some (.lst (ts.map V.ref)) → ItT H' ts kvs → Q (.ref l) H'
section
variable {X : Cx}
theorem paired_of {α β : Type} {F : α → β → Prop} : ∀ {xs : List α} {ys : List β}, xs.length = ys.length → (∀ (i : Nat) (x : α) (y : β), xs[i]? = some x → ys[i]? = some y → F x y) → Paired F xs ys
  | [], [], _, _ => .nil
  | [], _ :: _, h, _ => by cases h
  | _ :: _, [], h, _ => by cases h
  | x :: xs, y :: ys, h, k => .cons (k 0 x y rfl rfl) (paired_of (Nat.succ.inj h) fun i a b e1 e2 => k (i + 1) a b e1 e2)
theorem vals_addrs : ∀ as : List Addr, Vals (as.map V.ref) (as.map Value.ref)
  | [] => .nil
  | a :: as => .cons (show RelV (V.ref a) (Value.ref a) from rfl) (vals_addrs as)
theorem cr_listIt (hc : X.calm = true) : CallR X (.type "list") rListIt := by
  intro pins s σ H vs us Q I r h
  obtain ⟨p, a, kvs, rfl, hp, ha, q⟩ := h
  rw [Vals.ref1 r]
  have view : s.heap.IsItemsView p a := (show ObjOk X.prog X.w H s.heap p (L2.DX.itemsO p a) from I.hok p _ hp).1
  obtain ⟨z, lo, xs, rel, o, es, ep, ho, hex, hdat, hes, his, hnd⟩ := dt_rd I.hok ha
  have l1 : kvs.length = xs.length := Paired.length rel
  have l2 : es.size = xs.length := size_of_entries hes
  refine listI (es := es) (ep := ep) (I.ok.hd hc) view ⟨o, ho, hex, hdat⟩ (by rw [l2, ← l1]; exact z) fun h' tk acc c as hk hS hl hG hacc => ?_
  have nd : as.Nodup := List.Pairwise.imp (fun h => Nat.ne_of_lt h) hG.rise
  have lak : as.length = kvs.length := by omega
  have hn0 : H s.heap.objs.size = none := I.hok.fresh (Nat.le_refl _)
  have up : ∀ b ∈ as, s.heap.objs.size < b := hG.above
  have fr : ∀ b ∈ as, H b = none := fun b hb => I.hok.fresh (Nat.le_of_lt (up b hb))
  -- what was made
  have pr : ∀ (j : Nat) (b : Addr), as[j]? = some b → ∃ (kv : List Key × V) (x : List Key × Addr × Value), kvs[j]? = some kv ∧ H x.2.1 = some (.tup (kv.1.map kV)) ∧ RelV kv.2 x.2.2 ∧ h'.get? b = some { cls := .type "tuple", data := .seq #[Value.ref x.2.1, x.2.2] } := by
    intro j b hj
    obtain ⟨e, he, hg⟩ := hG.pairs j b hj
    rw [entry_at hes j] at he
    cases hx : xs[j]? with
    | none => rw [hx] at he; cases he
    | some x =>
      rw [hx] at he
      have he : entryOfKey (tupleKind (mixKind X.prog X.w)) x = e := Option.some.inj he
      obtain ⟨kv, k1, r1, r2, r3⟩ := paired_at rel hx
      refine ⟨kv, x, k1, r2, r3, ?_⟩
      rw [hg, ← he]
      all_goals rfl
  have I1 : Inv X pins σ H { s with heap := h', toks := tk } := I.kept (t' := tk) hk
  have lz : (as.map V.ref).length ≤ sizeLine := by rw [List.length_map, lak]; exact z
  have I2 : Inv X pins σ (upd H s.heap.objs.size (.lst (as.map V.ref))) { s with heap := h', toks := tk } :=
    I1.take (h' := h') (t' := tk) (fun b ob _ e => e) (I.fpOk (Nat.le_refl _) hn0) ⟨lz, acc.toList, c, by rw [hacc]; exact vals_addrs as, by rw [Array.toArray_toList]; exact hS⟩
  obtain ⟨H2, I3, g, qt⟩ := L2.DX.takeT (P := fun b vs => ∃ (j : Nat) (kv : List Key × V) (kq : Addr), as[j]? = some b ∧ kvs[j]? = some kv ∧ vs = [.ref kq, kv.2] ∧ H kq = some (.tup (kv.1.map kV))) I as _ I2 nd fun b hb => by
    obtain ⟨j, hj⟩ := List.mem_iff_getElem?.mp hb
    obtain ⟨kv, x, k1, k2, k3, hg⟩ := pr j b hj
    refine ⟨Nat.le_of_lt (up b hb), ?_, [.ref x.2.1, kv.2], ⟨j, kv, x.2.1, hj, k1, rfl, k2⟩, fun H3 => ⟨(by rw [sizeLine_eq]; show 2 ≤ 16777216; omega), [Value.ref x.2.1, x.2.2], .cons (show RelV (V.ref x.2.1) (Value.ref x.2.1) from rfl) (.cons k3 .nil), ⟨_, hg, rfl, 0, rfl⟩⟩⟩
    rw [upd_ne (Nat.ne_of_gt (up b hb))]
    exact fr b hb
  have gr : Same H H2 := fun b o e => g b o (by rw [upd_ne (ne_of_none e hn0)]; exact e)
  refine ⟨.ref s.heap.objs.size, H2, I3, rfl, q H2 s.heap.objs.size as gr hn0 fr (fun hm => Nat.lt_irrefl _ (up _ hm)) nd (g _ _ upd_same) (paired_of lak fun i t kv e1 e2 => ?_)⟩
  obtain ⟨vs, ⟨j, kv', kq, j1, j2, ev, hkq⟩, hH⟩ := qt t (List.mem_of_getElem? e1)
  have eij : i = j := (List.getElem?_inj (List.getElem?_eq_some_iff.mp e1).1 nd).mp (e1.trans j1.symm)
  subst eij
  have ee : kv' = kv := Option.some.inj (j2.symm.trans e2)
  subst ee
  rw [ev] at hH
  exact ⟨kq, hH, gr _ _ hkq⟩
end
end DTp
set_option Elab.async false
set_option linter.all false
set_option maxRecDepth 100000
set_option maxHeartbeats 4000000
namespace KT
open PySem L2 DTp
section
variable {ι : Type} {key : ι → List Key} {val : ι → V}
/-- just the entries of the indices in S, each once -/
structure TbG (S : ι → Prop) (key : ι → List Key) (val : ι → V) (kvs : List (List Key × V)) : Prop where
  nd : (kvs.map (·.1)).Nodup
  mem : ∀ e ∈ kvs, ∃ i, S i ∧ e = (key i, val i)
  has : ∀ i, S i → (key i, val i) ∈ kvs
theorem valV_mem {κ : Type} [DecidableEq κ] : ∀ {kvs : List (κ × V)} {k : κ} {v : V}, (kvs.map (·.1)).Nodup → (k, v) ∈ kvs → valV kvs k = some v
  | p :: kvs, k, v, nd, h => by
    rw [List.map_cons, List.nodup_cons] at nd
    rcases List.mem_cons.mp h with e | h
    · subst e
      exact valV_pos rfl
    · have n : ¬ p.1 = k := fun e => nd.1 (e ▸ List.mem_map.mpr ⟨(k, v), h, rfl⟩)
      rw [valV_neg n]
      exact valV_mem nd.2 h
theorem TbG.get {S : ι → Prop} {kvs : List (List Key × V)} (h : TbG S key val kvs) {i : ι} (hi : S i) : valV kvs (key i) = some (val i) := valV_mem h.nd (h.has i hi)
theorem TbG.nil : TbG (fun _ : ι => False) key val [] := ⟨.nil, fun e h => (by cases h), fun i h => h.elim⟩
theorem TbG.congr {S S' : ι → Prop} {kvs : List (List Key × V)} (h : TbG S key val kvs) (e : ∀ i, S i ↔ S' i) : TbG S' key val kvs :=
  ⟨h.nd, fun x hx => let ⟨i, a, b⟩ := h.mem x hx; ⟨i, (e i).mp a, b⟩, fun i hi => h.has i ((e i).mpr hi)⟩
theorem TbG.congrV {S : ι → Prop} {val' : ι → V} {kvs : List (List Key × V)} (h : TbG S key val kvs) (e : ∀ i, S i → val i = val' i) : TbG S key val' kvs :=
  ⟨h.nd, fun x hx => let ⟨i, a, b⟩ := h.mem x hx; ⟨i, a, by rw [← e i a]; exact b⟩, fun i hi => by rw [← e i hi]; exact h.has i hi⟩
theorem any_key {kvs : List (List Key × V)} {k : List Key} : (kvs.any fun kv => decide (kv.1 = k)) = true ↔ k ∈ kvs.map (·.1) := by
  rw [List.any_eq_true, List.mem_map]
  exact ⟨fun ⟨x, h1, h2⟩ => ⟨x, h1, of_decide_eq_true h2⟩, fun ⟨x, h1, h2⟩ => ⟨x, h1, decide_eq_true h2⟩⟩
theorem TbG.put {S : ι → Prop} {kvs : List (List Key × V)} (inj : ∀ i j, key i = key j → i = j) (h : TbG S key val kvs) (i : ι) : TbG (fun j => S j ∨ j = i) key val (putK kvs (key i) (val i)) := by
  unfold putK
  by_cases hk : (kvs.any fun kv => decide (kv.1 = key i)) = true
  · rw [if_pos hk]
    obtain ⟨e, he, ek⟩ := List.mem_map.mp (any_key.mp hk)
    obtain ⟨j, hj, rfl⟩ := h.mem e he
    have eji := inj j i ek
    subst eji
    have same : (kvs.map fun kv => if kv.1 = key j then (kv.1, val j) else kv) = kvs := by
      apply List.ext_getElem?
      intro n
      rw [List.getElem?_map]
      cases hx : kvs[n]? with
      | none => rfl
      | some x =>
        obtain ⟨l, hl, rfl⟩ := h.mem x (List.mem_of_getElem? hx)
        show some (if key l = key j then (key l, val j) else (key l, val l)) = _
        by_cases e : key l = key j
        · rw [if_pos e, inj l j e]
        · rw [if_neg e]
    rw [same]
    exact h.congr fun l => ⟨.inl, fun q => q.elim id fun e => e ▸ hj⟩
  · rw [if_neg hk]
    have nk : key i ∉ kvs.map (·.1) := fun q => hk (any_key.mpr q)
    refine ⟨?_, fun e he => ?_, fun j hj => ?_⟩
    · rw [List.map_append]
      refine List.nodup_append.mpr ⟨h.nd, by simp, fun a ha b hb e => nk ?_⟩
      have : b = key i := by simpa using hb
      rw [← this, ← e]
      exact ha
    · rcases List.mem_append.mp he with q | q
      · obtain ⟨j, a, b⟩ := h.mem e q
        exact ⟨j, .inl a, b⟩
      · exact ⟨i, .inr rfl, List.mem_singleton.mp q⟩
    · rcases hj with q | rfl
      · exact List.mem_append.mpr (.inl (h.has j q))
      · exact List.mem_append.mpr (.inr (List.mem_singleton.mpr rfl))
theorem TbG.merge (inj : ∀ i j, key i = key j → i = j) : ∀ (is : List ι) {S : ι → Prop} {kvs : List (List Key × V)}, TbG S key val kvs → TbG (fun j => S j ∨ j ∈ is) key val (mergeT kvs (is.map fun i => (key i, val i)))
  | [], _, _, h => h.congr fun j => by simp
  | i :: is, S, kvs, h => by
    have := TbG.merge inj is (h.put inj i)
    refine TbG.congr (S := fun j => (S j ∨ j = i) ∨ j ∈ is) this fun j => ?_
    rw [List.mem_cons, or_assoc]
theorem TbG.len {S : ι → Prop} {kvs : List (List Key × V)} (h : TbG S key val kvs) (is : List ι) (k : ∀ i, S i → i ∈ is) : kvs.length ≤ is.length := by
  have e := List.Nodup.length_le_of_subset h.nd (l₂ := is.map key) fun x hx => by
    obtain ⟨e, he, rfl⟩ := List.mem_map.mp hx
    obtain ⟨i, hi, rfl⟩ := h.mem e he
    exact List.mem_map.mpr ⟨i, k i hi, rfl⟩
  rwa [List.length_map, List.length_map] at e
/-- the indices, in the order of the entries -/
theorem TbG.idx {S : ι → Prop} : ∀ {kvs : List (List Key × V)}, TbG S key val kvs → ∃ is : List ι, kvs = is.map (fun i => (key i, val i)) ∧ ∀ i, S i → i ∈ is ∨ ∃ j ∈ is, key j = key i := by
  intro kvs h
  have pick : ∀ l : List (List Key × V), (∀ e ∈ l, ∃ i, S i ∧ e = (key i, val i)) → ∃ is : List ι, l = is.map (fun i => (key i, val i)) ∧ ∀ i ∈ is, S i := by
    intro l
    induction l with
    | nil => exact fun _ => ⟨[], rfl, fun i h => by cases h⟩
    | cons e l ih =>
      intro hm
      obtain ⟨i, hi, rfl⟩ := hm e List.mem_cons_self
      obtain ⟨is, e1, e2⟩ := ih fun x hx => hm x (List.mem_cons_of_mem _ hx)
      refine ⟨i :: is, by rw [e1]; rfl, fun j hj => ?_⟩
      rcases List.mem_cons.mp hj with rfl | q
      · exact hi
      · exact e2 j q
  obtain ⟨is, e1, e2⟩ := pick kvs h.mem
  refine ⟨is, e1, fun i hi => ?_⟩
  have m := h.has i hi
  rw [e1] at m
  obtain ⟨j, hj, ej⟩ := List.mem_map.mp m
  exact .inr ⟨j, hj, congrArg Prod.fst ej⟩
theorem TbG.idxs {S : ι → Prop} {kvs : List (List Key × V)} (inj : ∀ i j, key i = key j → i = j) (h : TbG S key val kvs) : ∃ is : List ι, kvs = is.map (fun i => (key i, val i)) ∧ is.Nodup ∧ ∀ i, S i ↔ i ∈ is := by
  obtain ⟨is, e1, e2⟩ := h.idx
  refine ⟨is, e1, ?_, fun i => ⟨fun hi => ?_, fun hi => ?_⟩⟩
  · have n := h.nd
    rw [e1, List.map_map] at n
    exact List.Pairwise.of_map _ (fun a b hab e => hab (congrArg _ e)) n
  · rcases e2 i hi with q | ⟨j, hj, e⟩
    · exact q
    · exact inj j i e ▸ hj
  · have m : (key i, val i) ∈ kvs := by rw [e1]; exact List.mem_map.mpr ⟨i, hi, rfl⟩
    obtain ⟨j, hj, e⟩ := h.mem _ m
    exact inj i j (congrArg Prod.fst e) ▸ hj
theorem TbG.ofIdx {is : List ι} (inj : ∀ i j, key i = key j → i = j) (nd : is.Nodup) : TbG (fun i => i ∈ is) key val (is.map fun i => (key i, val i)) where
  nd := by
    rw [List.map_map]
    exact List.Pairwise.map _ (fun a b hab e => hab (inj a b e)) nd
  mem := fun e he => let ⟨i, hi, q⟩ := List.mem_map.mp he; ⟨i, hi, q.symm⟩
  has := fun i hi => List.mem_map.mpr ⟨i, hi, rfl⟩
end
/-- a list of entries with different keys, put one by one -/
theorem mergeT_nd : ∀ (more kvs : List (List Key × V)), ((kvs ++ more).map (·.1)).Nodup → mergeT kvs more = kvs ++ more
  | [], kvs, _ => by rw [List.append_nil]; rfl
  | p :: more, kvs, h => by
    have nk : ¬ (kvs.any fun kv => decide (kv.1 = p.1)) = true := fun q => by
      have m := any_key.mp q
      rw [List.map_append] at h
      exact (List.nodup_append.mp h).2.2 _ m p.1 (by simp) rfl
    have e : putK kvs p.1 p.2 = kvs ++ [p] := by unfold putK; rw [if_neg nk]
    show mergeT (putK kvs p.1 p.2) more = _
    rw [e, mergeT_nd more (kvs ++ [p]) (by rw [List.append_assoc]; exact h), List.append_assoc]
    rfl
abbrev Ix := Nat × Nat
def keyI (i : Ix) : List Key := [.inl i.1, .inl i.2]
def valI (t : Nat → Nat → Nat) (i : Ix) : V := .int (t i.1 i.2)
theorem keyI_inj (i j : Ix) (h : keyI i = keyI j) : i = j := by
  obtain ⟨a, b⟩ := i
  obtain ⟨c, d⟩ := j
  simp only [keyI, List.cons.injEq, Sum.inl.injEq, and_true] at h
  obtain ⟨h1, h2⟩ := h
  have e1 : a = c := by omega
  have e2 : b = d := by omega
  rw [e1, e2]
abbrev Sq (n : Nat) : Ix → Prop := fun i => i.1 < n ∧ i.2 < n
/-- the dict at a is the table t of n -/
def TabAt (H : Hp) (a : Addr) (n : Nat) (t : Nat → Nat → Nat) : Prop := ∃ kvs, H a = some (.dT kvs) ∧ TbG (Sq n) keyI (valI t) kvs
/-- t stays below n and is free of brackets -/
structure Free (n : Nat) (t : Nat → Nat → Nat) : Prop where
  lt : ∀ x y, x < n → y < n → t x y < n
  as : ∀ x y z, x < n → y < n → z < n → t (t x y) z = t x (t y z)
def freeB (n : Nat) (t : Nat → Nat → Nat) : Bool := (List.range n).all fun x => (List.range n).all fun y => decide (t x y < n) && (List.range n).all fun z => decide (t (t x y) z = t x (t y z))
theorem free_of {n : Nat} {t : Nat → Nat → Nat} (h : freeB n t = true) : Free n t := by
  unfold freeB at h
  simp only [List.all_eq_true, List.mem_range, Bool.and_eq_true, decide_eq_true_eq] at h
  exact ⟨fun x y hx hy => (h x hx y hy).1, fun x y z hx hy hz => (h x hx y hy).2 z hz⟩
theorem Free.turn {n : Nat} {t : Nat → Nat → Nat} (h : Free n t) : Free n fun x y => t y x := ⟨fun x y hx hy => h.lt y x hy hx, fun x y z hx hy hz => (h.as z y x hz hy hx).symm⟩
theorem sq_list {n : Nat} : ∀ i, Sq n i → i ∈ (List.range n).flatMap fun x => (List.range n).map fun y => (x, y) := fun i h => List.mem_flatMap.mpr ⟨i.1, List.mem_range.mpr h.1, List.mem_map.mpr ⟨i.2, List.mem_range.mpr h.2, rfl⟩⟩
theorem sq_len {n : Nat} {t : Nat → Nat → Nat} {kvs : List (List Key × V)} {S : Ix → Prop} {key : Ix → List Key} {val : Ix → V} (h : TbG S key val kvs) (k : ∀ i, S i → Sq n i) : kvs.length ≤ n * n := by
  refine Nat.le_trans (h.len _ fun i hi => sq_list i (k i hi)) (Nat.le_of_eq ?_)
  simp [List.length_flatMap, List.map_const', List.sum_replicate_nat]
end KT
set_option linter.all false
set_option maxRecDepth 100000
namespace KT
def plainT (way n x y : Nat) : Nat :=
  let f (r : Nat) : Nat := r - (n - 1) * (if r > n then 1 else 0)
  match way with
  | 0 => x
  | 1 => y
  | 2 => 0
  | 3 => min x y
  | 4 => (x + y) % n
  | 5 => min (x + y + 1) (n - 1)
  | 6 => if x = y then x else 0
  | _ => min (f (f (f (f (x + y + 2))))) n - 1
def wideT (t : Nat → Nat → Nat) (n late x y : Nat) : Nat := if x < n ∧ y < n then t x y else if late = 0 then n else if x = n then y else x
def twofoldT (a b : Nat → Nat → Nat) (x y : Nat) : Nat := 2 * a (x / 2) (y / 2) + b (x % 2) (y % 2)
def twinT (t : Nat → Nat → Nat) (n w x y : Nat) : Nat := t (if x < n then x else w) (if y < n then y else w)
def leadT (t : Nat → Nat → Nat) (n x y : Nat) : Nat := if x < n ∧ y < n then t x y else if y = n then (if x = n then n else 0) else y
def cyclicT (n lead x y : Nat) : Nat := (if x + y + 2 ≤ n then x + y + 2 else lead + (x + y + 2 - lead) % (n - lead + 1)) - 1
theorem plain_free : ∀ way, way < 8 → ∀ n, n < 5 → 0 < n → freeB n (plainT way n) = true := by decide +kernel
theorem wide_free : ∀ way, way < 8 → ∀ n, n < 4 → 0 < n → ∀ late, late < 2 → freeB (n + 1) (wideT (plainT way n) n late) = true := by decide +kernel
theorem twofold_free : ∀ way, way < 8 → ∀ v, v < 8 → freeB 4 (twofoldT (plainT way 2) (plainT v 2)) = true := by decide +kernel
theorem twin_free : ∀ way, way < 8 → ∀ n, n < 4 → 0 < n → ∀ w, w < n → freeB (n + 1) (twinT (plainT way n) n w) = true := by decide +kernel
theorem lead_free : ∀ way, way < 3 → 0 < way → ∀ n, n < 4 → 0 < n → freeB (n + 1) (leadT (plainT way n) n) = true := by decide +kernel
theorem cyclic_free : ∀ n, n < 5 → 0 < n → ∀ lead, lead < n + 1 → 0 < lead → freeB n (cyclicT n lead) = true := by decide +kernel
end KT
set_option Elab.async false
set_option linter.all false
set_option maxRecDepth 100000
set_option maxHeartbeats 4000000
namespace KT
open PySem L2 PyProof.Rows DTp
section
variable {P : Program} {w : World} {K : PySem.W.Frag} {mg : Str → Option Value} {base : Heap}
def spPlain : Sp := fun vs H Q _ => ∃ way n : Nat, vs = [.int way, .int n] ∧ way < 8 ∧ 0 < n ∧ n < 5 ∧ ∀ (d : Addr) (H' : Hp), L2.Same H H' → H d = none → TabAt H' d n (plainT way n) → Q (.ref d) H'
abbrev nPlain : List Str := ["_law_way", "_law_many", "_law_told", "_law_x", "_law_y", "_law_raised", "_law_spin", "_law_some"]
theorem scPlain : FnScope nPlain ["_law_way", "_law_many"] (defScope sPlain) := ⟨rfl, rfl, rfl, by decide +kernel, rfl, by decide +kernel, by decide +kernel⟩
/-- one entry more, row by row -/
theorem TbG.next {val : Ix → V} {kvs : List (List Key × V)} {n x y : Nat} (h : TbG (fun i : Ix => (i.1 < x ∧ i.2 < n) ∨ (i.1 = x ∧ i.2 < y)) keyI val kvs) : TbG (fun i : Ix => (i.1 < x ∧ i.2 < n) ∨ (i.1 = x ∧ i.2 < y + 1)) keyI val (putK kvs (keyI (x, y)) (val (x, y))) :=
  (h.put keyI_inj (x, y)).congr fun i => by
    obtain ⟨a, b⟩ := i
    simp only [Prod.mk.injEq]
    omega
theorem TbG.row {val : Ix → V} {kvs : List (List Key × V)} {n x : Nat} (h : TbG (fun i : Ix => (i.1 < x ∧ i.2 < n) ∨ (i.1 = x ∧ i.2 < n)) keyI val kvs) : TbG (fun i : Ix => i.1 < x + 1 ∧ i.2 < n) keyI val kvs :=
  h.congr fun i => by
    obtain ⟨a, b⟩ := i
    show (a < x ∧ b < n ∨ a = x ∧ b < n) ↔ (a < x + 1 ∧ b < n)
    omega
theorem TbG.row0 {val : Ix → V} {kvs : List (List Key × V)} {n x : Nat} (h : TbG (fun i : Ix => i.1 < x ∧ i.2 < n) keyI val kvs) : TbG (fun i : Ix => (i.1 < x ∧ i.2 < n) ∨ (i.1 = x ∧ i.2 < 0)) keyI val kvs :=
  h.congr fun i => by
    obtain ⟨a, b⟩ := i
    show (a < x ∧ b < n) ↔ (a < x ∧ b < n ∨ a = x ∧ b < 0)
    omega
theorem TbG.few {val : Ix → V} {kvs : List (List Key × V)} {S : Ix → Prop} (h : TbG S keyI val kvs) (k : ∀ i, S i → i.1 < 5 ∧ i.2 < 5) : kvs.length < sizeLine := by
  have e := sq_len (n := 5) (t := fun _ _ => 0) h k
  rw [sizeLine_eq]; omega
def liftR (n r : Nat) : Nat := r - (n - 1) * (if r > n then 1 else 0)
def plainL (n x y r : Nat) : List Int := [0 + (x : Int), 0 + (y : Int), 0, if (0 + (y : Int)) < 0 + x then 0 + (y : Int) else 0 + x, (0 + (x : Int) + (0 + (y : Int))).fmod n, if (n : Int) - 1 < 0 + x + (0 + y) + 1 then (n : Int) - 1 else 0 + x + (0 + y) + 1,
  if x = y then 0 + (x : Int) else 0, (if (n : Int) < r then (n : Int) else r) - 1]
def plainB : Bool := (List.range 5).all fun n => n == 0 || (List.range n).all fun x => (List.range n).all fun y => (List.range 8).all fun way => decide ((plainL n x y (Nat.repeat (liftR n) 4 (x + y + 2)))[way]? = some ((plainT way n x y : Nat) : Int))
theorem plainB_ok : plainB = true := by decide +kernel
theorem plain_val (n : Nat) (n5 : n < 5) (n0 : 0 < n) (x : Nat) (hx : x < n) (y : Nat) (hy : y < n) (way : Nat) (hw : way < 8) : (plainL n x y (Nat.repeat (liftR n) 4 (x + y + 2)))[way]? = some ((plainT way n x y : Nat) : Int) := by
  have h := plainB_ok
  unfold plainB at h
  simp only [List.all_eq_true, List.mem_range, Bool.or_eq_true, decide_eq_true_eq] at h
  rcases h n n5 with z | z
  · have : n = 0 := by simpa using z
    omega
  · exact z x hx y hy way hw
theorem ok_plain {f : Addr} {fd : FuncData} (F : Fun K "_law_plain_table" "_law_plain_table" sPlain f fd) (T : Blt mg) : FnOk P w K mg base CX0 1 f fd ["_law_way", "_law_many"] spPlain := by
  refine F.ok scPlain (fun vs H Q E h => ?_) (fun cdv A outer s H vs Q E hr h => ?_)
  · obtain ⟨way, n, rfl, _⟩ := h
    rfl
  · obtain ⟨way, n, rfl, hw, n0, n5, k⟩ := h
    have nd := scPlain.nd
    refine ⟨_, pss_cons (ps_set (i := 2) nd rfl (Or.inl rfl) pe_dnewT)
      (pss_cons (ps_for PassesOwn.never rfl (pi_range1 rfl T.range (pa_cons (pv 1) pa_nil)) (pg_name (i := 3) nd rfl (Or.inl rfl))
        (pss_one (ps_for PassesOwn.never rfl (pi_range1 rfl T.range (pa_cons (pv 1) pa_nil)) (pg_name (i := 4) nd rfl (Or.inl rfl))
          (pss_cons (ps_set (i := 5) nd rfl (Or.inl rfl) (pe_op op_add (pe_op op_add (pv 3) (pv 4)) pe_int))
          (pss_cons (ps_for PassesOwn.never rfl (pi_range1 rfl T.range (pa_cons pe_int pa_nil)) (pg_name (i := 6) nd rfl (Or.inl rfl))
            (pss_one (ps_set (i := 5) nd rfl (Or.inl rfl) (pe_op op_sub (pv 5) (pe_op op_mul (pe_op op_sub (pv 1) pe_int) (pe_callTy call_int1 (by rfl) T.int boot_int (pa_cons (pe_cmpR op_gt (pv 5) (pv 1) (nomark _)) pa_nil)))))))
          (pss_cons (ps_set (i := 7) nd rfl (Or.inl rfl) (pe_lst (pa_cons (pv 3) (pa_cons (pv 4) (pa_cons pe_int (pa_cons (pe_callB (call_min2 rfl) (by rfl) T.min (by decide +kernel) (pa_cons (pv 3) (pa_cons (pv 4) pa_nil)))
              (pa_cons (pe_op op_modN (pe_callTy call_int1 (by rfl) T.int boot_int (pa_cons (pe_op op_add (pv 3) (pv 4)) pa_nil)) (pv 1))
              (pa_cons (pe_callB (call_min2 rfl) (by rfl) T.min (by decide +kernel) (pa_cons (pe_op op_add (pe_op op_add (pv 3) (pv 4)) pe_int) (pa_cons (pe_op op_sub (pv 1) pe_int) pa_nil))) pa_nil))))))))
          (pss_one (ps_dput (hu_of hr) (pv 2) (pe_tup (pa_cons (pv 3) (pa_cons (pv 4) pa_nil)))
            (pe_ix ix_list (pe_op op_cat (pv 7) (pe_lst (pa_cons (pe_ifExp (pt_cmpR op_eq (pv 3) (pv 4) (nomark _)) (pv 3) pe_int)
              (pa_cons (pe_op op_sub (pe_callB (call_min2 rfl) (by rfl) T.min (by decide +kernel) (pa_cons (pv 5) (pa_cons (pv 1) pa_nil))) pe_int) pa_nil)))) (pv 0) (fun _ _ => rfl)) rfl))))))))
      (pss_one (ps_ret (pv 2)))), ?_⟩
    refine fun d hd => ?_
    refine ⟨_, rfl, _, rfl, by omega, by omega, ?_⟩
    refine for_range (lo := 0) (n := (n : Int).toNat) (fun x σ H' => ∃ (x3 x4 x5 x6 x7 : Option V) (kvs : List (List Key × V)), σ = [some (.int way), some (.int n), some (.ref d), x3, x4, x5, x6, x7] ∧ L2.Same H H' ∧ H' d = some (.dT kvs) ∧ TbG (fun i : Ix => i.1 < x ∧ i.2 < n) keyI (valI (plainT way n)) kvs) ?_ ?_ ?_
    · exact ⟨_, _, _, _, _, [], rfl, Same.new hd, upd_same, TbG.nil.congr fun i => by simp⟩
    · rintro x σ H1 hx ⟨x3, x4, x5, x6, x7, kvs, rfl, s1, hd1, tb⟩
      refine ⟨_, rfl, _, rfl, by omega, by omega, ?_⟩
      refine for_range (lo := 0) (n := (n : Int).toNat) (fun y σ H' => ∃ (x4 x5 x6 x7 : Option V) (kvs : List (List Key × V)), σ = [some (.int way), some (.int n), some (.ref d), some (.int (0 + x)), x4, x5, x6, x7] ∧ L2.Same H H' ∧ H' d = some (.dT kvs) ∧ TbG (fun i : Ix => (i.1 < x ∧ i.2 < n) ∨ (i.1 = x ∧ i.2 < y)) keyI (valI (plainT way n)) kvs) ?_ ?_ ?_
      · exact ⟨_, _, _, _, kvs, rfl, s1, hd1, tb.row0⟩
      · rintro y σ H2 hy ⟨x4, x5, x6, x7, kvs, rfl, s2, hd2, tb⟩
        have hxn : x < n := by omega
        have hyn : y < n := by omega
        refine ⟨_, rfl, _, rfl, _, _, rfl, rfl, _, _, rfl, rfl, ?_⟩
        refine at_name (σ' := [some (.int way), some (.int n), some (.ref d), some (.int (0 + x)), some (.int (0 + y)), some (.int ((x + y + 2 : Nat) : Int)), x6, x7]) (by
          have e : (0 + (x : Int)) + (0 + (y : Int)) + 2 = ((x + y + 2 : Nat) : Int) := by omega
          rw [← e]
          rfl) ?_
        refine ⟨4, rfl, by decide, by decide, ?_⟩
        refine for_range (lo := 0) (n := 4) (fun j σ H' => H' = H2 ∧ ∃ (x6 : Option V) (r : Nat), σ = [some (.int way), some (.int n), some (.ref d), some (.int (0 + x)), some (.int (0 + y)), some (.int (r : Int)), x6, x7] ∧ r ≤ 10 ∧ 2 ≤ r ∧ r = Nat.repeat (liftR n) j (x + y + 2)) ?_ ?_ ?_
        · exact ⟨rfl, _, _, rfl, by omega, by omega, rfl⟩
        · rintro j σ H3 hj ⟨rfl, x6, r, rfl, r10, r2, er⟩
          refine ⟨_, rfl, _, rfl, _, _, rfl, rfl, _, rfl, _, rfl, _, _, rfl, rfl, .inr ⟨_, rfl, _, _, rfl, rfl, .inl ⟨by omega, by omega⟩, _, _, rfl, rfl, ?_⟩⟩
          have er2 : (r : Int) - ((n : Int) - 1) * (if decide ((r : Int) > n) = true then 1 else 0) = (liftR n r : Int) := by
            unfold liftR
            by_cases z : r > n
            · rw [if_pos (by simpa using z), if_pos z, Nat.mul_one, Int.mul_one]; omega
            · rw [if_neg (by simpa using z), if_neg z]; simp
          refine ⟨rfl, some (.int (0 + (j : Nat))), liftR n r, ?_, ?_, ?_, ?_⟩
          · rw [← er2]; rfl
          · unfold liftR; omega
          · unfold liftR
            split
            · rw [Nat.mul_one]; omega
            · omega
          · rw [er]; rfl
        · rintro σ H3 ⟨rfl, x6, r, rfl, r10, r2, er⟩
          refine ⟨_, rfl, _, rfl, _, rfl, _, rfl, _, _, rfl, ?_⟩
          refine ⟨_, rfl, _, rfl, _, _, rfl, rfl, .inl ⟨_, rfl, _, rfl, _, _, rfl, rfl, by omega, ?_⟩⟩
          refine ⟨_, rfl, _, rfl, _, _, rfl, rfl, _, _, rfl, rfl, _, rfl, _, _, rfl, rfl, _, _, rfl, ?_⟩
          refine ⟨(by show 6 ≤ sizeLine; decide), fun l hl => ?_⟩
          have e3 := Same.new (H := H3) (o := .lst [V.int (0 + x), V.int (0 + y), V.int 0, V.int (if (0 + (y : Int)) < 0 + x then 0 + y else 0 + x), V.int ((0 + (x : Int) + (0 + y)).fmod n), V.int (if (n : Int) - 1 < 0 + x + (0 + y) + 1 then n - 1 else 0 + x + (0 + y) + 1)]) hl
          have e4 : upd H3 l (.lst [V.int (0 + x), V.int (0 + y), V.int 0, V.int (if (0 + (y : Int)) < 0 + x then 0 + y else 0 + x), V.int ((0 + (x : Int) + (0 + y)).fmod n), V.int (if (n : Int) - 1 < 0 + x + (0 + y) + 1 then n - 1 else 0 + x + (0 + y) + 1)]) l = _ := upd_same
          refine at_name (σ' := [some (.int way), some (.int n), some (.ref d), some (.int (0 + x)), some (.int (0 + y)), some (.int (r : Int)), x6, some (.ref l)]) rfl ?_
          generalize upd H3 l (.lst [V.int (0 + x), V.int (0 + y), V.int 0, V.int (if (0 + (y : Int)) < 0 + x then 0 + y else 0 + x), V.int ((0 + (x : Int) + (0 + y)).fmod n), V.int (if (n : Int) - 1 < 0 + x + (0 + y) + 1 then n - 1 else 0 + x + (0 + y) + 1)]) = H4 at e3 e4 ⊢
          have hd4 := e3 _ _ hd2
          refine ⟨_, rfl, _, rfl, _, rfl, rfl, _, rfl, ?_⟩
          have exy : decide (V.int (0 + (x : Int)) = V.int (0 + (y : Int))) = decide (x = y) := by
            rw [Int.zero_add, Int.zero_add]
            by_cases z : x = y
            · simp [z]
            · have : ¬ (x : Int) = (y : Int) := by omega
              simp [z, this]
          rw [exy]
          refine ite2 (fun hxy => ?_) (fun hxy => ?_)
          · refine ⟨_, rfl, ?_⟩
            refine ⟨_, rfl, _, rfl, _, _, rfl, _, _, rfl, rfl, (by show 2 ≤ sizeLine; decide), fun l2 hl2 => ?_⟩
            have f1 := Same.new (H := H4) (o := .lst [V.int (0 + (x : Int)), V.int ((if (n : Int) < r then (n : Int) else r) - 1)]) hl2
            have f2 : upd H4 l2 (.lst [V.int (0 + (x : Int)), V.int ((if (n : Int) < r then (n : Int) else r) - 1)]) l2 = _ := upd_same
            generalize upd H4 l2 (.lst [V.int (0 + (x : Int)), V.int ((if (n : Int) < r then (n : Int) else r) - 1)]) = H5 at f1 f2 ⊢
            refine ⟨l, l2, _, _, rfl, rfl, f1 _ _ e4, f2, (by show 6 + 2 ≤ sizeLine; decide), fun l3 hl3 => ?_⟩
            have g1 := Same.new (H := H5) (o := .lst ((plainL n x y r).map V.int)) hl3
            have g2 : upd H5 l3 (.lst ((plainL n x y r).map V.int)) l3 = _ := upd_same
            have pl := plain_val n n5 n0 x hxn y hyn way hw
            rw [← er] at pl
            have eqL : ([V.int (0 + (x : Int)), V.int (0 + (y : Int)), V.int 0, V.int (if (0 + (y : Int)) < 0 + x then 0 + (y : Int) else 0 + x), V.int ((0 + (x : Int) + (0 + (y : Int))).fmod n), V.int (if (n : Int) - 1 < 0 + x + (0 + y) + 1 then (n : Int) - 1 else 0 + x + (0 + y) + 1)] ++ [V.int (0 + (x : Int)), V.int ((if (n : Int) < r then (n : Int) else r) - 1)] : List V) = (plainL n x y r).map V.int := by
              unfold plainL
              rw [if_pos (of_decide_eq_true hxy)]
              rfl
            rw [eqL]
            generalize upd H5 l3 (.lst ((plainL n x y r).map V.int)) = H6 at g1 g2 ⊢
            refine ⟨_, rfl, l3, _, (way : Int), .int (plainT way n x y), rfl, rfl, SqL.of g2, atI_nat (by rw [List.getElem?_map, pl]; rfl), ?_⟩
            refine ⟨_, rfl, _, rfl, _, rfl, (by show 2 ≤ sizeLine; decide), fun t ht => ?_⟩
            have h1 := Same.new (H := H6) (o := .tup [V.int (0 + x), V.int (0 + y)]) ht
            have h2 : upd H6 t (.tup [V.int (0 + x), V.int (0 + y)]) t = some (.tup ((keyI (x, y)).map kV)) := by
              rw [upd_same]
              show _ = some (HO.tup [V.int (x : Int), V.int (y : Int)])
              rw [Int.zero_add, Int.zero_add]
            have hd6 : upd H6 t (.tup [V.int (0 + x), V.int (0 + y)]) d = some (.dT kvs) := h1 _ _ (g1 _ _ (f1 _ _ hd4))
            refine ⟨d, _, rfl, DPut.t (k := keyI (x, y)) hd6 h2 (tb.few fun i hi => by omega), ?_⟩
            refine ⟨_, _, _, _, _, rfl, fun b o e => ?_, upd_same, tb.next⟩
            rw [upd_ne (ne_of_none e hd)]
            exact h1 _ _ (g1 _ _ (f1 _ _ (e3 _ _ (s2 _ _ e))))
          · refine ⟨_, rfl, _, rfl, _, _, rfl, _, _, rfl, rfl, (by show 2 ≤ sizeLine; decide), fun l2 hl2 => ?_⟩
            have f1 := Same.new (H := H4) (o := .lst [V.int (0 : Int), V.int ((if (n : Int) < r then (n : Int) else r) - 1)]) hl2
            have f2 : upd H4 l2 (.lst [V.int (0 : Int), V.int ((if (n : Int) < r then (n : Int) else r) - 1)]) l2 = _ := upd_same
            generalize upd H4 l2 (.lst [V.int (0 : Int), V.int ((if (n : Int) < r then (n : Int) else r) - 1)]) = H5 at f1 f2 ⊢
            refine ⟨l, l2, _, _, rfl, rfl, f1 _ _ e4, f2, (by show 6 + 2 ≤ sizeLine; decide), fun l3 hl3 => ?_⟩
            have g1 := Same.new (H := H5) (o := .lst ((plainL n x y r).map V.int)) hl3
            have g2 : upd H5 l3 (.lst ((plainL n x y r).map V.int)) l3 = _ := upd_same
            have pl := plain_val n n5 n0 x hxn y hyn way hw
            rw [← er] at pl
            have eqL : ([V.int (0 + (x : Int)), V.int (0 + (y : Int)), V.int 0, V.int (if (0 + (y : Int)) < 0 + x then 0 + (y : Int) else 0 + x), V.int ((0 + (x : Int) + (0 + (y : Int))).fmod n), V.int (if (n : Int) - 1 < 0 + x + (0 + y) + 1 then (n : Int) - 1 else 0 + x + (0 + y) + 1)] ++ [V.int (0 : Int), V.int ((if (n : Int) < r then (n : Int) else r) - 1)] : List V) = (plainL n x y r).map V.int := by
              unfold plainL
              rw [if_neg (fun e => hxy (decide_eq_true e))]
              rfl
            rw [eqL]
            generalize upd H5 l3 (.lst ((plainL n x y r).map V.int)) = H6 at g1 g2 ⊢
            refine ⟨_, rfl, l3, _, (way : Int), .int (plainT way n x y), rfl, rfl, SqL.of g2, atI_nat (by rw [List.getElem?_map, pl]; rfl), ?_⟩
            refine ⟨_, rfl, _, rfl, _, rfl, (by show 2 ≤ sizeLine; decide), fun t ht => ?_⟩
            have h1 := Same.new (H := H6) (o := .tup [V.int (0 + x), V.int (0 + y)]) ht
            have h2 : upd H6 t (.tup [V.int (0 + x), V.int (0 + y)]) t = some (.tup ((keyI (x, y)).map kV)) := by
              rw [upd_same]
              show _ = some (HO.tup [V.int (x : Int), V.int (y : Int)])
              rw [Int.zero_add, Int.zero_add]
            have hd6 : upd H6 t (.tup [V.int (0 + x), V.int (0 + y)]) d = some (.dT kvs) := h1 _ _ (g1 _ _ (f1 _ _ hd4))
            refine ⟨d, _, rfl, DPut.t (k := keyI (x, y)) hd6 h2 (tb.few fun i hi => by omega), ?_⟩
            refine ⟨_, _, _, _, _, rfl, fun b o e => ?_, upd_same, tb.next⟩
            rw [upd_ne (ne_of_none e hd)]
            exact h1 _ _ (g1 _ _ (f1 _ _ (e3 _ _ (s2 _ _ e))))
      · rintro σ H2 ⟨x4, x5, x6, x7, kvs, rfl, s2, hd2, tb⟩
        have hn : (n : Int).toNat = n := by omega
        rw [hn] at tb
        exact ⟨_, _, _, _, _, kvs, rfl, s2, hd2, tb.row⟩
    · rintro σ H1 ⟨x3, x4, x5, x6, x7, kvs, rfl, s1, hd1, tb⟩
      have hn : (n : Int).toNat = n := by omega
      rw [hn] at tb
      exact ⟨_, rfl, k d H1 s1 hd ⟨kvs, hd1, tb⟩⟩
end
end KT
set_option Elab.async false
set_option linter.all false
set_option maxRecDepth 100000
set_option maxHeartbeats 4000000
namespace KT
open PySem L2 PyProof.Rows DTp
section
variable {P : Program} {w : World} {K : PySem.W.Frag} {mg : Str → Option Value} {base : Heap}
section
variable {ι : Type} {key : ι → List Key} {val : ι → V}
/-- each an entry's tuple -/
def PrG (key : ι → List Key) (val : ι → V) (H : Hp) : List Addr → List ι → Prop := Paired fun p i => ∃ b, H p = some (.tup [.ref b, val i]) ∧ H b = some (.tup ((key i).map kV))
theorem PrG.mono {H H' : Hp} (s : L2.Same H H') {ps : List Addr} {is : List ι} (h : PrG key val H ps is) : PrG key val H' ps is := Paired.mapP h fun _ _ ⟨b, h1, h2⟩ => ⟨b, s _ _ h1, s _ _ h2⟩
theorem PrG.prT {H : Hp} : ∀ {ps : List Addr} {is : List ι}, PrG key val H ps is → PrT K H ps (is.map fun i => (key i, val i))
  | _, _, .nil => .nil
  | _, _, .cons ⟨b, h1, h2⟩ t => .cons ⟨b, SqT.of h1, h2⟩ (PrG.prT t)
theorem lc_pairs {J : It} {n : Nat} {G : Hp → Prop} {Y : Nat → Hp → V → Hp → Prop} (W : Walk J n G Y) {g : TG} {te : TE} {vs : List Nat} {σ : L2.St} {H1 : Hp} {D : Addr} {Qd : Hp → Prop} (is : List ι) (hn : is.length = n) (few : n ≤ 1000) (hD : H1 D = none) (stay : ∀ H', L2.Same H1 H' → G H')
    (step : ∀ i x H H' j (R : VK), is[i]? = some j → L2.Same H1 H → Y i H x H' → (∀ t b H3, L2.Same H H3 → H3 t = some (.tup [.ref b, val j]) → H3 b = some (.tup ((key j).map kV)) → R (.ref t) H3) → g x (wipe σ vs) H' fun σ2 H2 => wipe σ2 vs = wipe σ vs ∧ te σ2 H2 R)
    (done : ∀ H' ps, L2.Same H1 H' → H' D = some (.lst (ps.map V.ref)) → PrG key val H' ps is → Qd H') :
    ∃ W : Nat → Nat → Hp → Prop, (∃ m, W 0 m (upd H1 D (.lst []))) ∧ ∀ i m H, W i m H →
      (J.stop i H ∧ Qd H) ∨ (J.go i H ∧ ∃ Nx : Hp → Prop, (∀ H', Nx H' → ∃ m', m' < m ∧ W (i + 1) m' H') ∧ ∀ x H', J.yld i H x H' → g x (wipe σ vs) H' fun σ2 H2 => wipe σ2 vs = wipe σ vs ∧ tYes σ2 H2 fun b H3 =>
        if b = true then te σ2 H3 fun y H4 => ∃ acc, H4 D = some (.lst acc) ∧ acc.length < sizeLine ∧ Nx (upd H4 D (.lst (acc ++ [y]))) else Nx H3) := by
  refine lc_it W (tt := tYes) (fun i H' => L2.Same H1 H' ∧ ∃ ps : List Addr, H' D = some (.lst (ps.map V.ref)) ∧ PrG key val H' ps (is.take i)) ⟨Same.new hD, [], upd_same, .nil⟩ (fun i H' _ h => stay H' h.1) (fun i x H H' hi h y => ?_) (fun H' h => ?_)
  · obtain ⟨s1, ps, hDp, pr⟩ := h
    have hi' : i < is.length := by omega
    have ej : is[i]? = some is[i] := List.getElem?_eq_getElem hi'
    refine step i x H H' is[i] _ ej s1 y fun t b H3 s2 ht hb => ⟨_, s2 _ _ hDp, ?_, ?_, ps ++ [t], ?_, ?_⟩
    · rw [List.length_map, Paired.length pr, List.length_take]
      exact small1000 (by omega)
    · intro c o e
      rw [upd_ne (ne_of_none e hD)]
      exact s2 _ _ (s1 _ _ e)
    · rw [List.map_append]
      exact upd_same
    · rw [take_next' ej]
      have keep : ∀ c u, H3 c = some (.tup u) → (upd H3 D (.lst (ps.map V.ref ++ [V.ref t]))) c = some (.tup u) := fun c u e => by
        rw [upd_ne (ne_of e (s2 _ _ hDp) (fun z => nomatch z))]
        exact e
      exact Paired.snoc (Paired.mapP pr fun p i ⟨b', h1, h2⟩ => ⟨b', keep _ _ (s2 _ _ h1), keep _ _ (s2 _ _ h2)⟩) ⟨b, keep _ _ ht, keep _ _ hb⟩
  · obtain ⟨s1, ps, hDp, pr⟩ := h
    rw [← hn, List.take_length] at pr
    exact done H' ps s1 hDp pr
end
/-- dict([(key, told[key]) for key in told]) -/
theorem rd_copy {ι : Type} {key : ι → List Key} {val : ι → V} {i j : Nat} {σ : L2.St} {H : Hp} {Q : VK} {d : Addr} {S : ι → Prop} {kvs : List (List Key × V)} (inj : ∀ a b, key a = key b → a = b) (hi : σ[i]? = some (some (.ref d))) (hij : i ≠ j) (hj : j < σ.length) (hd : H d = some (.dT kvs)) (tb : TbG S key val kvs) (few : kvs.length ≤ 1000)
    (k : ∀ q H' kvs', L2.Same H H' → H q = none → H' q = some (.dT kvs') → TbG S key val kvs' → Q (.ref q) H') :
    tCB (rDictT K) (tCons (tLockE (tLc (iKeys (tVar i)) (gName j) tYes (tTup (tCons (tVar j) (tCons (tDGet (tVar i) (tVar j)) tNil))) [j])) tNil) σ H Q := by
  obtain ⟨is, e1, ndi, e2⟩ := tb.idxs inj
  have li : is.length = kvs.length := by rw [e1, List.length_map]
  refine ⟨d, .dT kvs, hd, trivial, fun od => ?_⟩
  refine ⟨_, hi, d, od, rfl, .inr ⟨kvs, upd_same, fun D hD => ?_⟩⟩
  have nDd : D ≠ d := fun e => by rw [e, upd_same] at hD; cases hD
  have hD0 : H D = none := by rw [upd_ne nDd] at hD; exact hD
  refine lc_pairs (key := key) (val := val) walk_keysT is li few hD (fun H' s => s _ _ upd_same) ?_ ?_
  · rintro n x H1 H1' a R ha s1 ⟨rfl, kk, v, q, hk, rfl, hq⟩ kR
    have ek : kvs[n]? = some (key a, val a) := by rw [e1, List.getElem?_map, ha]; rfl
    rw [hk] at ek
    have ek := Option.some.inj ek
    obtain ⟨rfl, rfl⟩ : kk = key a ∧ v = val a := ⟨congrArg Prod.fst ek, congrArg Prod.snd ek⟩
    have sj : ((wipe σ [j]).set j (some (V.ref q)))[j]? = some (some (.ref q)) := by
      rw [List.getElem?_set_self (by rw [wipe_length]; exact hj)]
    have si : ((wipe σ [j]).set j (some (V.ref q)))[i]? = some (some (.ref d)) := by
      rw [List.getElem?_set_ne hij.symm, wipe_out (by simpa using hij)]
      exact hi
    refine ⟨?_, ?_⟩
    · show (((σ.set j none).set j (some (V.ref q))).set j none) = σ.set j none
      rw [List.set_set, List.set_set]
    · have gt : valV kvs (key a) = some (val a) := tb.get ((e2 a).mpr (List.mem_of_getElem? ha))
      refine ⟨_, sj, _, si, _, sj, d, val a, rfl, .inr ⟨kvs, key a, q, .inr ⟨od, s1 _ _ upd_same⟩, rfl, hq, gt.symm⟩, (by show 2 ≤ sizeLine; decide), fun t ht => ?_⟩
      exact kR t q _ (Same.new ht) upd_same ((upd_ne (ne_of_none hq ht)).trans hq)
  · intro H1 ps s1 hDp pr
    have hdl : H1 d = some (.frz od (.dT kvs)) := s1 _ _ upd_same
    refine ⟨hdl, D, ps, is.map (fun i => (key i, val i)), rfl, SqL.of ((upd_ne nDd).trans hDp), ?_, fun q hq => ?_⟩
    · refine PrG.prT (key := key) (val := val) (is := is) (Paired.mapP pr fun p a ⟨b, h1, h2⟩ => ⟨b, ?_, ?_⟩)
      · rw [upd_ne (ne_of h1 hdl (fun z => nomatch z))]; exact h1
      · rw [upd_ne (ne_of h2 hdl (fun z => nomatch z))]; exact h2
    · have same : L2.Same H (upd H1 d (.dT kvs)) := fun b o e => by
        by_cases hb : b = d
        · rw [hb] at e ⊢
          rw [hd] at e
          rw [upd_same]; exact e
        · rw [upd_ne hb]
          exact s1 _ _ ((upd_ne hb).trans e)
      have hq0 := same.free hq
      refine k q _ (mergeT [] (is.map fun i => (key i, val i))) (fun b o e => ?_) hq0 upd_same ?_
      · rw [upd_ne (ne_of_none e hq0)]
        exact same _ _ e
      · exact (TbG.merge inj is TbG.nil).congr fun a => by rw [false_or]; exact (e2 a).symm
end
end KT
set_option Elab.async false
set_option linter.all false
set_option maxRecDepth 100000
set_option maxHeartbeats 4000000
namespace KT
open PySem L2 PyProof.Rows DTp
section
variable {P : Program} {w : World} {K : PySem.W.Frag} {mg : Str → Option Value} {base : Heap}
theorem u2 {u : Nat} (h : u + 64 < cLine) : u + 2 < cLine := by omega
/-- d[x, y] of a table -/
theorem TabAt.get {H : Hp} {a b : Addr} {n x y : Nat} {t : Nat → Nat → Nat} (h : TabAt H a n t) (hx : x < n) (hy : y < n) (hb : H b = some (.tup [V.int (x : Int), V.int (y : Int)])) : DGet H a (.ref b) (some (.int (t x y))) := by
  obtain ⟨kvs, h1, h2⟩ := h
  have e := DGet.t (k := keyI (x, y)) h1 hb
  rw [h2.get (i := (x, y)) ⟨hx, hy⟩] at e
  exact e
theorem TabAt.mono {H H' : Hp} {a : Addr} {n : Nat} {t : Nat → Nat → Nat} (s : L2.Same H H') (h : TabAt H a n t) : TabAt H' a n t := let ⟨kvs, h1, h2⟩ := h; ⟨kvs, s _ _ h1, h2⟩
def spWide : Sp := fun vs H Q _ => ∃ (d : Addr) (n late : Nat) (t : Nat → Nat → Nat), vs = [.ref d, .int n, .int late] ∧ 0 < n ∧ n < 4 ∧ TabAt H d n t ∧ ∀ (q : Addr) (H' : Hp), L2.Same H H' → H q = none → TabAt H' q (n + 1) (wideT t n late) → Q (.ref q) H'
abbrev nWide : List Str := ["_law_told", "_law_many", "_law_way", "_law_found", "_law_key", "_law_x"]
theorem scWide : FnScope nWide ["_law_told", "_law_many", "_law_way"] (defScope sWide) := ⟨rfl, rfl, rfl, by decide +kernel, rfl, by decide +kernel, by decide +kernel⟩
theorem ok_wide {f : Addr} {fd : FuncData} (F : Fun K "_law_wide_table" "_law_wide_table" sWide f fd) (T : Blt mg) (hdi : mg "dict" = none) : FnOk P w K mg base CX0 1 f fd ["_law_told", "_law_many", "_law_way"] spWide := by
  refine F.ok scWide (fun vs H Q E h => ?_) (fun cdv A outer s H vs Q E hr h => ?_)
  · obtain ⟨d, n, late, t, rfl, _⟩ := h
    rfl
  · obtain ⟨d, n, late, t, rfl, n0, n4, ⟨kvs, hd, tb⟩, k⟩ := h
    have nd := scWide.nd
    have hun := hr.units
    refine ⟨_, pss_cons (ps_set (i := 3) nd rfl (Or.inl rfl) (pe_callTy (cr_dictT rfl (u2 hr.units)) (by rfl) hdi (by decide +kernel) (pa_cons (pe_lock (pe_lc (own := [("_law_key", 4)]) (g := gName 4) (tt := tYes) (te := tTup (tCons (tVar 4) (tCons (tDGet (tVar 0) (tVar 4)) tNil))) rfl nd (pi_keys (pv 0))
          (blkOk_by (own := [("_law_key", 4)]) (N := nWide) (sc := defScope sWide) (by decide +kernel)) (fun _ _ _ _ _ => pg_name (i := 4) nd rfl (Or.inl rfl)) (fun _ _ _ _ _ => pts_nil) (fun _ _ _ _ _ => pe_tup (pa_cons (pv 4) (pa_cons (pe_dget (hu_of hr) (pv 0) (pv 4) (fun _ _ => rfl)) pa_nil))))) pa_nil)))
      (pss_cons (ps_for PassesOwn.never rfl (pi_range1 rfl T.range (pa_cons (pe_op op_add (pv 1) pe_int) pa_nil)) (pg_name (i := 5) nd rfl (Or.inl rfl))
        (pss_cons (ps_dput (hu_of hr) (pv 3) (pe_tup (pa_cons (pv 5) (pa_cons (pv 1) pa_nil))) (pe_ifExp (pt_cmpR op_eq (pv 2) pe_int (nomark _)) (pv 1) (pv 5)) rfl)
          (pss_one (ps_dput (hu_of hr) (pv 3) (pe_tup (pa_cons (pv 1) (pa_cons (pv 5) pa_nil))) (pe_ifExp (pt_cmpR op_eq (pv 2) pe_int (nomark _)) (pv 1) (pv 5)) rfl))))
      (pss_one (ps_ret (pv 3)))), ?_⟩
    refine rd_copy (key := keyI) (val := valI t) keyI_inj rfl (by decide) (by show 4 < 6; decide) hd tb (by have := tb.few fun i hi => ⟨by omega, by omega⟩; have e := sq_len (n := 4) (t := t) tb fun i hi => ⟨by omega, by omega⟩; omega) fun q H1 kvs1 s1 hq0 hq1 tb1 => ?_
    refine at_name (σ' := [some (.ref d), some (.int n), some (.int late), some (.ref q), none, none]) rfl ?_
    refine ⟨_, rfl, _, _, rfl, rfl, _, rfl, by omega, by omega, ?_⟩
    refine for_range (lo := 0) (n := ((n : Int) + 1).toNat) (fun x σ H' => ∃ (x5 : Option V) (kvs : List (List Key × V)), σ = [some (.ref d), some (.int n), some (.int late), some (.ref q), none, x5] ∧ L2.Same H H' ∧ H' q = some (.dT kvs) ∧ TbG (fun i : Ix => Sq n i ∨ (i.1 < x ∧ i.2 = n) ∨ (i.1 = n ∧ i.2 < x)) keyI (valI (wideT t n late)) kvs) ?_ ?_ ?_
    · refine ⟨_, kvs1, rfl, s1, hq1, (tb1.congrV fun i hi => ?_).congr fun i => ?_⟩
      · show V.int _ = V.int _
        unfold wideT
        rw [if_pos hi]
      · obtain ⟨a, b⟩ := i
        show (a < n ∧ b < n) ↔ ((a < n ∧ b < n) ∨ (a < 0 ∧ b = n) ∨ (a = n ∧ b < 0))
        omega
    · rintro x σ H2 hx ⟨x5, kvs2, rfl, s2, hq2, tb2⟩
      have hxn : x ≤ n := by omega
      have v1 : wideT t n late x n = if late = 0 then n else x := by
        unfold wideT
        rw [if_neg (by omega)]
        split
        · rfl
        · split
          · rename_i e; rw [e]
          · rfl
      have v2 : wideT t n late n x = if late = 0 then n else x := by
        unfold wideT
        rw [if_neg (by omega), if_pos rfl]
      have el : decide (V.int (late : Int) = V.int 0) = decide (late = 0) := by
        by_cases z : late = 0
        · simp [z]
        · have : ¬ (late : Int) = 0 := by omega
          simp [z, this]
      refine at_name (σ' := [some (.ref d), some (.int n), some (.int late), some (.ref q), none, some (.int (x : Int))]) (by rw [Int.zero_add]; rfl) ?_
      refine ⟨_, rfl, rfl, _, rfl, ?_⟩
      rw [el]
      by_cases z : late = 0
      · rw [decide_eq_true z]
        rw [if_pos z] at v1 v2
        refine iteT ⟨_, rfl, ?_⟩
        refine ⟨_, rfl, _, rfl, _, rfl, (by show 2 ≤ sizeLine; decide), fun t1 ht1 => ?_⟩
        have a1 := Same.new (H := H2) (o := .tup [V.int (x : Int), V.int (n : Int)]) ht1
        have a2 : upd H2 t1 (.tup [V.int (x : Int), V.int (n : Int)]) t1 = some (.tup ((keyI (x, n)).map kV)) := upd_same
        generalize upd H2 t1 (.tup [V.int (x : Int), V.int (n : Int)]) = G1 at a1 a2 ⊢
        have tb3 := tb2.put keyI_inj (x, n)
        rw [show valI (wideT t n late) (x, n) = V.int (n : Nat) from congrArg (fun k : Nat => V.int k) v1] at tb3
        refine ⟨q, _, rfl, DPut.t (k := keyI (x, n)) (a1 _ _ hq2) a2 (tb2.few fun i hi => by omega), ?_⟩
        have b1 : upd G1 q (.dT (putK kvs2 (keyI (x, n)) (V.int (n : Nat)))) q = _ := upd_same
        have b2 : L2.Same H (upd G1 q (.dT (putK kvs2 (keyI (x, n)) (V.int (n : Nat))))) := fun b o e => by
          rw [upd_ne (ne_of_none e hq0)]
          exact a1 _ _ (s2 _ _ e)
        generalize putK kvs2 (keyI (x, n)) (V.int (n : Nat)) = kvs3 at tb3 b1 b2 ⊢
        generalize upd G1 q (.dT kvs3) = G2 at b1 b2 ⊢
        refine ⟨_, rfl, rfl, _, rfl, ?_⟩
        rw [el, decide_eq_true z]
        refine iteT ⟨_, rfl, ?_⟩
        refine ⟨_, rfl, _, rfl, _, rfl, (by show 2 ≤ sizeLine; decide), fun t2 ht2 => ?_⟩
        have c1 := Same.new (H := G2) (o := .tup [V.int (n : Int), V.int (x : Int)]) ht2
        have c2 : upd G2 t2 (.tup [V.int (n : Int), V.int (x : Int)]) t2 = some (.tup ((keyI (n, x)).map kV)) := upd_same
        generalize upd G2 t2 (.tup [V.int (n : Int), V.int (x : Int)]) = G3 at c1 c2 ⊢
        have tb4 := tb3.put keyI_inj (n, x)
        rw [show valI (wideT t n late) (n, x) = V.int (n : Nat) from congrArg (fun k : Nat => V.int k) v2] at tb4
        refine ⟨q, _, rfl, DPut.t (k := keyI (n, x)) (c1 _ _ b1) c2 (tb3.few fun i hi => hi.elim (fun h => by omega) fun h => by rw [h]; exact ⟨by show x < 5; omega, by show n < 5; omega⟩), ?_⟩
        refine ⟨_, _, rfl, fun b o e => ?_, upd_same, tb4.congr fun i => ?_⟩
        · rw [upd_ne (ne_of_none e hq0)]
          exact c1 _ _ (b2 _ _ e)
        · obtain ⟨a, b⟩ := i
          simp only [Prod.mk.injEq]
          omega
      · rw [decide_eq_false z]
        rw [if_neg z] at v1 v2
        refine iteF ⟨_, rfl, ?_⟩
        refine ⟨_, rfl, _, rfl, _, rfl, (by show 2 ≤ sizeLine; decide), fun t1 ht1 => ?_⟩
        have a1 := Same.new (H := H2) (o := .tup [V.int (x : Int), V.int (n : Int)]) ht1
        have a2 : upd H2 t1 (.tup [V.int (x : Int), V.int (n : Int)]) t1 = some (.tup ((keyI (x, n)).map kV)) := upd_same
        generalize upd H2 t1 (.tup [V.int (x : Int), V.int (n : Int)]) = G1 at a1 a2 ⊢
        have tb3 := tb2.put keyI_inj (x, n)
        rw [show valI (wideT t n late) (x, n) = V.int (x : Nat) from congrArg (fun k : Nat => V.int k) v1] at tb3
        refine ⟨q, _, rfl, DPut.t (k := keyI (x, n)) (a1 _ _ hq2) a2 (tb2.few fun i hi => by omega), ?_⟩
        have b1 : upd G1 q (.dT (putK kvs2 (keyI (x, n)) (V.int (x : Nat)))) q = _ := upd_same
        have b2 : L2.Same H (upd G1 q (.dT (putK kvs2 (keyI (x, n)) (V.int (x : Nat))))) := fun b o e => by
          rw [upd_ne (ne_of_none e hq0)]
          exact a1 _ _ (s2 _ _ e)
        generalize putK kvs2 (keyI (x, n)) (V.int (x : Nat)) = kvs3 at tb3 b1 b2 ⊢
        generalize upd G1 q (.dT kvs3) = G2 at b1 b2 ⊢
        refine ⟨_, rfl, rfl, _, rfl, ?_⟩
        rw [el, decide_eq_false z]
        refine iteF ⟨_, rfl, ?_⟩
        refine ⟨_, rfl, _, rfl, _, rfl, (by show 2 ≤ sizeLine; decide), fun t2 ht2 => ?_⟩
        have c1 := Same.new (H := G2) (o := .tup [V.int (n : Int), V.int (x : Int)]) ht2
        have c2 : upd G2 t2 (.tup [V.int (n : Int), V.int (x : Int)]) t2 = some (.tup ((keyI (n, x)).map kV)) := upd_same
        generalize upd G2 t2 (.tup [V.int (n : Int), V.int (x : Int)]) = G3 at c1 c2 ⊢
        have tb4 := tb3.put keyI_inj (n, x)
        rw [show valI (wideT t n late) (n, x) = V.int (x : Nat) from congrArg (fun k : Nat => V.int k) v2] at tb4
        refine ⟨q, _, rfl, DPut.t (k := keyI (n, x)) (c1 _ _ b1) c2 (tb3.few fun i hi => hi.elim (fun h => by omega) fun h => by rw [h]; exact ⟨by show x < 5; omega, by show n < 5; omega⟩), ?_⟩
        refine ⟨_, _, rfl, fun b o e => ?_, upd_same, tb4.congr fun i => ?_⟩
        · rw [upd_ne (ne_of_none e hq0)]
          exact c1 _ _ (b2 _ _ e)
        · obtain ⟨a, b⟩ := i
          simp only [Prod.mk.injEq]
          omega
    · rintro σ H2 ⟨x5, kvs2, rfl, s2, hq2, tb2⟩
      refine ⟨_, rfl, k q H2 s2 hq0 ⟨kvs2, hq2, tb2.congr fun i => ?_⟩⟩
      obtain ⟨a, b⟩ := i
      have : ((n : Int) + 1).toNat = n + 1 := by omega
      rw [this]
      show ((a < n ∧ b < n) ∨ (a < n + 1 ∧ b = n) ∨ (a = n ∧ b < n + 1)) ↔ (a < n + 1 ∧ b < n + 1)
      omega
end
end KT
set_option Elab.async false
set_option linter.all false
set_option maxRecDepth 100000
set_option maxHeartbeats 4000000
namespace KT
open PySem L2 PyProof.Rows DTp
section
variable {P : Program} {w : World} {K : PySem.W.Frag} {mg : Str → Option Value} {base : Heap}
def spLead : Sp := fun vs H Q _ => ∃ (d : Addr) (n : Nat) (t : Nat → Nat → Nat), vs = [.ref d, .int n] ∧ 0 < n ∧ n < 4 ∧ TabAt H d n t ∧ ∀ (q : Addr) (H' : Hp), L2.Same H H' → H q = none → TabAt H' q (n + 1) (leadT t n) → Q (.ref q) H'
abbrev nLead : List Str := ["_law_told", "_law_many", "_law_found", "_law_key", "_law_x"]
theorem scLead : FnScope nLead ["_law_told", "_law_many"] (defScope sLeading) := ⟨rfl, rfl, rfl, by decide +kernel, rfl, by decide +kernel, by decide +kernel⟩
theorem ok_lead {f : Addr} {fd : FuncData} (F : Fun K "_law_leading_table" "_law_leading_table" sLeading f fd) (T : Blt mg) (hdi : mg "dict" = none) : FnOk P w K mg base CX0 1 f fd ["_law_told", "_law_many"] spLead := by
  refine F.ok scLead (fun vs H Q E h => ?_) (fun cdv A outer s H vs Q E hr h => ?_)
  · obtain ⟨d, n, t, rfl, _⟩ := h
    rfl
  · obtain ⟨d, n, t, rfl, n0, n4, ⟨kvs, hd, tb⟩, k⟩ := h
    have nd := scLead.nd
    refine ⟨_, pss_cons (ps_set (i := 2) nd rfl (Or.inl rfl) (pe_callTy (cr_dictT rfl (u2 hr.units)) (by rfl) hdi (by decide +kernel) (pa_cons (pe_lock (pe_lc (own := [("_law_key", 3)]) (g := gName 3) (tt := tYes) (te := tTup (tCons (tVar 3) (tCons (tDGet (tVar 0) (tVar 3)) tNil))) rfl nd (pi_keys (pv 0))
          (blkOk_by (own := [("_law_key", 3)]) (N := nLead) (sc := defScope sLeading) (by decide +kernel)) (fun _ _ _ _ _ => pg_name (i := 3) nd rfl (Or.inl rfl)) (fun _ _ _ _ _ => pts_nil) (fun _ _ _ _ _ => pe_tup (pa_cons (pv 3) (pa_cons (pe_dget (hu_of hr) (pv 0) (pv 3) (fun _ _ => rfl)) pa_nil))))) pa_nil)))
      (pss_cons (ps_for PassesOwn.never rfl (pi_range1 rfl T.range (pa_cons (pe_op op_add (pv 1) pe_int) pa_nil)) (pg_name (i := 4) nd rfl (Or.inl rfl))
        (pss_cons (ps_dput (hu_of hr) (pv 2) (pe_tup (pa_cons (pv 4) (pa_cons (pv 1) pa_nil))) (pe_ifExp (pt_cmpR op_eq (pv 4) (pv 1) (nomark _)) (pv 1) pe_int) rfl)
          (pss_one (ps_dput (hu_of hr) (pv 2) (pe_tup (pa_cons (pv 1) (pa_cons (pv 4) pa_nil))) (pv 4) rfl))))
      (pss_one (ps_ret (pv 2)))), ?_⟩
    refine rd_copy (key := keyI) (val := valI t) keyI_inj rfl (by decide) (by show 3 < 5; decide) hd tb (by have e := sq_len (n := 4) (t := t) tb fun i hi => ⟨by omega, by omega⟩; omega) fun q H1 kvs1 s1 hq0 hq1 tb1 => ?_
    refine at_name (σ' := [some (.ref d), some (.int n), some (.ref q), none, none]) rfl ?_
    refine ⟨_, rfl, _, _, rfl, rfl, _, rfl, by omega, by omega, ?_⟩
    refine for_range (lo := 0) (n := ((n : Int) + 1).toNat) (fun x σ H' => ∃ (x5 : Option V) (kvs : List (List Key × V)), σ = [some (.ref d), some (.int n), some (.ref q), none, x5] ∧ L2.Same H H' ∧ H' q = some (.dT kvs) ∧ TbG (fun i : Ix => Sq n i ∨ (i.1 < x ∧ i.2 = n) ∨ (i.1 = n ∧ i.2 < x)) keyI (valI (leadT t n)) kvs) ?_ ?_ ?_
    · refine ⟨_, kvs1, rfl, s1, hq1, (tb1.congrV fun i hi => ?_).congr fun i => ?_⟩
      · show V.int _ = V.int _
        unfold leadT
        rw [if_pos hi]
      · obtain ⟨a, b⟩ := i
        show (a < n ∧ b < n) ↔ ((a < n ∧ b < n) ∨ (a < 0 ∧ b = n) ∨ (a = n ∧ b < 0))
        omega
    · rintro x σ H2 hx ⟨x5, kvs2, rfl, s2, hq2, tb2⟩
      have hxn : x ≤ n := by omega
      have v1 : leadT t n x n = if x = n then n else 0 := by
        unfold leadT
        rw [if_neg (by omega), if_pos rfl]
      have v2 : leadT t n n x = x := by
        unfold leadT
        rw [if_neg (by omega)]
        split
        · rename_i e; rw [if_pos rfl, e]
        · rfl
      have el : decide (V.int (x : Int) = V.int (n : Int)) = decide (x = n) := by
        by_cases z : x = n
        · simp [z]
        · have : ¬ (x : Int) = n := by omega
          simp [z, this]
      refine at_name (σ' := [some (.ref d), some (.int n), some (.ref q), none, some (.int (x : Int))]) (by rw [Int.zero_add]; rfl) ?_
      refine ⟨_, rfl, _, rfl, rfl, _, rfl, ?_⟩
      rw [el]
      by_cases z : x = n
      · rw [decide_eq_true z]
        rw [if_pos z] at v1
        refine iteT ⟨_, rfl, ?_⟩
        refine ⟨_, rfl, _, rfl, _, rfl, (by show 2 ≤ sizeLine; decide), fun t1 ht1 => ?_⟩
        have a1 := Same.new (H := H2) (o := .tup [V.int (x : Int), V.int (n : Int)]) ht1
        have a2 : upd H2 t1 (.tup [V.int (x : Int), V.int (n : Int)]) t1 = some (.tup ((keyI (x, n)).map kV)) := upd_same
        generalize upd H2 t1 (.tup [V.int (x : Int), V.int (n : Int)]) = G1 at a1 a2 ⊢
        have tb3 := tb2.put keyI_inj (x, n)
        rw [show valI (leadT t n) (x, n) = V.int (n : Nat) from congrArg (fun k : Nat => V.int k) v1] at tb3
        refine ⟨q, _, rfl, DPut.t (k := keyI (x, n)) (a1 _ _ hq2) a2 (tb2.few fun i hi => by omega), ?_⟩
        have b1 : upd G1 q (.dT (putK kvs2 (keyI (x, n)) (V.int (n : Nat)))) q = _ := upd_same
        have b2 : L2.Same H (upd G1 q (.dT (putK kvs2 (keyI (x, n)) (V.int (n : Nat))))) := fun b o e => by
          rw [upd_ne (ne_of_none e hq0)]
          exact a1 _ _ (s2 _ _ e)
        have b3 : upd G1 q (.dT (putK kvs2 (keyI (x, n)) (V.int (n : Int)))) = upd G1 q (.dT (putK kvs2 (keyI (x, n)) (V.int (n : Nat)))) := rfl
        rw [b3]
        generalize putK kvs2 (keyI (x, n)) (V.int (n : Nat)) = kvs3 at tb3 b1 b2 ⊢
        generalize upd G1 q (.dT kvs3) = G2 at b1 b2 ⊢
        refine ⟨_, rfl, _, rfl, _, rfl, _, rfl, (by show 2 ≤ sizeLine; decide), fun t2 ht2 => ?_⟩
        have c1 := Same.new (H := G2) (o := .tup [V.int (n : Int), V.int (x : Int)]) ht2
        have c2 : upd G2 t2 (.tup [V.int (n : Int), V.int (x : Int)]) t2 = some (.tup ((keyI (n, x)).map kV)) := upd_same
        generalize upd G2 t2 (.tup [V.int (n : Int), V.int (x : Int)]) = G3 at c1 c2 ⊢
        have tb4 := tb3.put keyI_inj (n, x)
        rw [show valI (leadT t n) (n, x) = V.int (x : Nat) from congrArg (fun k : Nat => V.int k) v2] at tb4
        refine ⟨q, _, rfl, DPut.t (k := keyI (n, x)) (c1 _ _ b1) c2 (tb3.few fun i hi => hi.elim (fun h => by omega) fun h => by rw [h]; exact ⟨by show x < 5; omega, by show n < 5; omega⟩), ?_⟩
        refine ⟨_, _, rfl, fun b o e => ?_, upd_same, tb4.congr fun i => ?_⟩
        · rw [upd_ne (ne_of_none e hq0)]
          exact c1 _ _ (b2 _ _ e)
        · obtain ⟨a, b⟩ := i
          simp only [Prod.mk.injEq]
          omega
      · rw [decide_eq_false z]
        rw [if_neg z] at v1
        refine iteF ?_
        refine ⟨_, rfl, _, rfl, _, rfl, (by show 2 ≤ sizeLine; decide), fun t1 ht1 => ?_⟩
        have a1 := Same.new (H := H2) (o := .tup [V.int (x : Int), V.int (n : Int)]) ht1
        have a2 : upd H2 t1 (.tup [V.int (x : Int), V.int (n : Int)]) t1 = some (.tup ((keyI (x, n)).map kV)) := upd_same
        generalize upd H2 t1 (.tup [V.int (x : Int), V.int (n : Int)]) = G1 at a1 a2 ⊢
        have tb3 := tb2.put keyI_inj (x, n)
        rw [show valI (leadT t n) (x, n) = V.int (0 : Nat) from congrArg (fun k : Nat => V.int k) v1] at tb3
        refine ⟨q, _, rfl, DPut.t (k := keyI (x, n)) (a1 _ _ hq2) a2 (tb2.few fun i hi => by omega), ?_⟩
        have b1 : upd G1 q (.dT (putK kvs2 (keyI (x, n)) (V.int (0 : Nat)))) q = _ := upd_same
        have b2 : L2.Same H (upd G1 q (.dT (putK kvs2 (keyI (x, n)) (V.int (0 : Nat))))) := fun b o e => by
          rw [upd_ne (ne_of_none e hq0)]
          exact a1 _ _ (s2 _ _ e)
        have b3 : upd G1 q (.dT (putK kvs2 (keyI (x, n)) (V.int (0 : Int)))) = upd G1 q (.dT (putK kvs2 (keyI (x, n)) (V.int (0 : Nat)))) := rfl
        rw [b3]
        generalize putK kvs2 (keyI (x, n)) (V.int (0 : Nat)) = kvs3 at tb3 b1 b2 ⊢
        generalize upd G1 q (.dT kvs3) = G2 at b1 b2 ⊢
        refine ⟨_, rfl, _, rfl, _, rfl, _, rfl, (by show 2 ≤ sizeLine; decide), fun t2 ht2 => ?_⟩
        have c1 := Same.new (H := G2) (o := .tup [V.int (n : Int), V.int (x : Int)]) ht2
        have c2 : upd G2 t2 (.tup [V.int (n : Int), V.int (x : Int)]) t2 = some (.tup ((keyI (n, x)).map kV)) := upd_same
        generalize upd G2 t2 (.tup [V.int (n : Int), V.int (x : Int)]) = G3 at c1 c2 ⊢
        have tb4 := tb3.put keyI_inj (n, x)
        rw [show valI (leadT t n) (n, x) = V.int (x : Nat) from congrArg (fun k : Nat => V.int k) v2] at tb4
        refine ⟨q, _, rfl, DPut.t (k := keyI (n, x)) (c1 _ _ b1) c2 (tb3.few fun i hi => hi.elim (fun h => by omega) fun h => by rw [h]; exact ⟨by show x < 5; omega, by show n < 5; omega⟩), ?_⟩
        refine ⟨_, _, rfl, fun b o e => ?_, upd_same, tb4.congr fun i => ?_⟩
        · rw [upd_ne (ne_of_none e hq0)]
          exact c1 _ _ (b2 _ _ e)
        · obtain ⟨a, b⟩ := i
          simp only [Prod.mk.injEq]
          omega
    · rintro σ H2 ⟨x5, kvs2, rfl, s2, hq2, tb2⟩
      refine ⟨_, rfl, k q H2 s2 hq0 ⟨kvs2, hq2, tb2.congr fun i => ?_⟩⟩
      obtain ⟨a, b⟩ := i
      have : ((n : Int) + 1).toNat = n + 1 := by omega
      rw [this]
      show ((a < n ∧ b < n) ∨ (a < n + 1 ∧ b = n) ∨ (a = n ∧ b < n + 1)) ↔ (a < n + 1 ∧ b < n + 1)
      omega
end
end KT
set_option Elab.async false
set_option linter.all false
set_option maxRecDepth 100000
set_option maxHeartbeats 4000000
namespace KT
open PySem L2 PyProof.Rows DTp
section
variable {P : Program} {w : World} {K : PySem.W.Frag} {mg : Str → Option Value} {base : Heap}
def spCyc : Sp := fun vs H Q _ => ∃ n lead : Nat, vs = [.int n, .int lead] ∧ 0 < n ∧ n < 5 ∧ 0 < lead ∧ lead ≤ n ∧ ∀ (q : Addr) (H' : Hp), L2.Same H H' → H q = none → TabAt H' q n (cyclicT n lead) → Q (.ref q) H'
abbrev nCyc : List Str := ["_law_many", "_law_lead", "_law_told", "_law_x", "_law_y", "_law_raised"]
theorem scCyc : FnScope nCyc ["_law_many", "_law_lead"] (defScope sCyclic) := ⟨rfl, rfl, rfl, by decide +kernel, rfl, by decide +kernel, by decide +kernel⟩
theorem ok_cyc {f : Addr} {fd : FuncData} (F : Fun K "_law_cyclic_table" "_law_cyclic_table" sCyclic f fd) (T : Blt mg) : FnOk P w K mg base CX0 1 f fd ["_law_many", "_law_lead"] spCyc := by
  refine F.ok scCyc (fun vs H Q E h => ?_) (fun cdv A outer s H vs Q E hr h => ?_)
  · obtain ⟨n, lead, rfl, _⟩ := h
    rfl
  · obtain ⟨n, lead, rfl, n0, n5, l0, ln, k⟩ := h
    have nd := scCyc.nd
    refine ⟨_, pss_cons (ps_set (i := 2) nd rfl (Or.inl rfl) pe_dnewT)
      (pss_cons (ps_for PassesOwn.never rfl (pi_range1 rfl T.range (pa_cons (pv 0) pa_nil)) (pg_name (i := 3) nd rfl (Or.inl rfl))
        (pss_one (ps_for PassesOwn.never rfl (pi_range1 rfl T.range (pa_cons (pv 0) pa_nil)) (pg_name (i := 4) nd rfl (Or.inl rfl))
          (pss_cons (ps_set (i := 5) nd rfl (Or.inl rfl) (pe_op op_add (pe_op op_add (pv 3) (pv 4)) pe_int))
          (pss_one (ps_dput (hu_of hr) (pv 2) (pe_tup (pa_cons (pv 3) (pa_cons (pv 4) pa_nil)))
            (pe_op op_sub (pe_ifExp (pt_cmpR op_le (pv 5) (pv 0) (nomark _)) (pv 5) (pe_op op_add (pv 1) (pe_op op_modN (pe_callTy call_int1 (by rfl) T.int boot_int (pa_cons (pe_op op_sub (pv 5) (pv 1)) pa_nil)) (pe_op op_add (pe_op op_sub (pv 0) (pv 1)) pe_int)))) pe_int) rfl))))))
      (pss_one (ps_ret (pv 2)))), ?_⟩
    refine fun d hd => ?_
    refine ⟨_, rfl, _, rfl, by omega, by omega, ?_⟩
    refine for_range (lo := 0) (n := (n : Int).toNat) (fun x σ H' => ∃ (x3 x4 x5 : Option V) (kvs : List (List Key × V)), σ = [some (.int n), some (.int lead), some (.ref d), x3, x4, x5] ∧ L2.Same H H' ∧ H' d = some (.dT kvs) ∧ TbG (fun i : Ix => i.1 < x ∧ i.2 < n) keyI (valI (cyclicT n lead)) kvs) ?_ ?_ ?_
    · exact ⟨_, _, _, [], rfl, Same.new hd, upd_same, TbG.nil.congr fun i => by simp⟩
    · rintro x σ H1 hx ⟨x3, x4, x5, kvs, rfl, s1, hd1, tb⟩
      refine at_name (σ' := [some (.int n), some (.int lead), some (.ref d), some (.int (x : Int)), x4, x5]) (by rw [Int.zero_add]; rfl) ?_
      refine ⟨_, rfl, _, rfl, by omega, by omega, ?_⟩
      refine for_range (lo := 0) (n := (n : Int).toNat) (fun y σ H' => ∃ (x4 x5 : Option V) (kvs : List (List Key × V)), σ = [some (.int n), some (.int lead), some (.ref d), some (.int (x : Int)), x4, x5] ∧ L2.Same H H' ∧ H' d = some (.dT kvs) ∧ TbG (fun i : Ix => (i.1 < x ∧ i.2 < n) ∨ (i.1 = x ∧ i.2 < y)) keyI (valI (cyclicT n lead)) kvs) ?_ ?_ ?_
      · exact ⟨_, _, kvs, rfl, s1, hd1, tb.row0⟩
      · rintro y σ H2 hy ⟨x4, x5, kvs, rfl, s2, hd2, tb⟩
        have hxn : x < n := by omega
        have hyn : y < n := by omega
        refine at_name (σ' := [some (.int n), some (.int lead), some (.ref d), some (.int (x : Int)), some (.int (y : Int)), x5]) (by rw [Int.zero_add]; rfl) ?_
        refine ⟨_, rfl, _, rfl, _, _, rfl, rfl, _, _, rfl, rfl, ?_⟩
        refine at_name (σ' := [some (.int n), some (.int lead), some (.ref d), some (.int (x : Int)), some (.int (y : Int)), some (.int ((x : Int) + y + 2))]) rfl ?_
        have fin : ∀ z : Int, z = (cyclicT n lead x y : Nat) → ∀ t1, H2 t1 = none → ∃ a H4, (V.ref d) = V.ref a ∧ DPut (upd H2 t1 (.tup [V.int (x : Int), V.int (y : Int)])) a (.ref t1) (.int z) H4 ∧ ∃ (x4 x5 : Option V) (kvs : List (List Key × V)), [some (V.int n), some (.int lead), some (.ref d), some (.int (x : Int)), some (.int (y : Int)), some (.int ((x : Int) + y + 2))] = [some (.int n), some (.int lead), some (.ref d), some (.int (x : Int)), x4, x5] ∧ L2.Same H H4 ∧ H4 d = some (.dT kvs) ∧ TbG (fun i : Ix => (i.1 < x ∧ i.2 < n) ∨ (i.1 = x ∧ i.2 < y + 1)) keyI (valI (cyclicT n lead)) kvs := by
          rintro z rfl t1 ht1
          have h1 := Same.new (H := H2) (o := .tup [V.int (x : Int), V.int (y : Int)]) ht1
          refine ⟨d, _, rfl, DPut.t (k := keyI (x, y)) (h1 _ _ hd2) upd_same (tb.few fun i hi => by omega), _, _, _, rfl, fun b o e => ?_, upd_same, tb.next⟩
          rw [upd_ne (ne_of_none e hd)]
          exact h1 _ _ (s2 _ _ e)
        refine ⟨_, rfl, _, rfl, _, _, rfl, rfl, _, rfl, ?_⟩
        by_cases z : x + y + 2 ≤ n
        · rw [decide_eq_true (show (x : Int) + y + 2 ≤ n by omega)]
          refine iteT ⟨_, rfl, _, _, rfl, rfl, _, rfl, _, rfl, _, rfl, (by show 2 ≤ sizeLine; decide), fun t1 ht1 => fin _ ?_ t1 ht1⟩
          unfold cyclicT
          rw [if_pos z]
          omega
        · rw [decide_eq_false (show ¬ (x : Int) + y + 2 ≤ n by omega)]
          refine iteF ⟨_, rfl, _, rfl, _, rfl, _, _, rfl, rfl, .inl ⟨_, rfl, _, rfl, _, rfl, _, _, rfl, rfl, _, _, rfl, rfl, _, _, rfl, rfl, by omega, _, _, rfl, rfl, _, _, rfl, rfl, _, rfl, _, rfl, _, rfl, (by show 2 ≤ sizeLine; decide), fun t1 ht1 => fin _ ?_ t1 ht1⟩⟩
          unfold cyclicT
          rw [if_neg z]
          have e1 : ((x : Int) + y + 2 - lead).fmod ((n : Int) - lead + 1) = (((x + y + 2 - lead) % (n - lead + 1) : Nat) : Int) := by
            have a1 : ((x : Int) + y + 2 - lead) = ((x + y + 2 - lead : Nat) : Int) := by omega
            have a2 : ((n : Int) - lead + 1) = ((n - lead + 1 : Nat) : Int) := by omega
            rw [a1, a2, Int.fmod_eq_emod_of_nonneg _ (by omega)]
            exact (Int.natCast_emod _ _).symm
          rw [e1]
          omega
      · rintro σ H2 ⟨x4, x5, kvs, rfl, s2, hd2, tb⟩
        have hn : (n : Int).toNat = n := by omega
        rw [hn] at tb
        exact ⟨_, _, _, kvs, rfl, s2, hd2, tb.row⟩
    · rintro σ H1 ⟨x3, x4, x5, kvs, rfl, s1, hd1, tb⟩
      have hn : (n : Int).toNat = n := by omega
      rw [hn] at tb
      exact ⟨_, rfl, k d H1 s1 hd ⟨kvs, hd1, tb⟩⟩
end
end KT
set_option Elab.async false
set_option linter.all false
set_option maxRecDepth 100000
set_option maxHeartbeats 4000000
namespace KT
open PySem L2 PyProof.Rows DTp
section
variable {P : Program} {w : World} {K : PySem.W.Frag} {mg : Str → Option Value} {base : Heap}
def spTwo : Sp := fun vs H Q _ => ∃ (a b : Addr) (t u : Nat → Nat → Nat), vs = [.ref a, .ref b] ∧ TabAt H a 2 t ∧ TabAt H b 2 u ∧ ∀ (q : Addr) (H' : Hp), L2.Same H H' → H q = none → TabAt H' q 4 (twofoldT t u) → Q (.ref q) H'
abbrev nTwo : List Str := ["_law_one", "_law_other", "_law_found", "_law_x", "_law_y"]
theorem scTwo : FnScope nTwo ["_law_one", "_law_other"] (defScope sTwofold) := ⟨rfl, rfl, rfl, by decide +kernel, rfl, by decide +kernel, by decide +kernel⟩
theorem ok_two {f : Addr} {fd : FuncData} (F : Fun K "_law_twofold_table" "_law_twofold_table" sTwofold f fd) (T : Blt mg) : FnOk P w K mg base CX0 1 f fd ["_law_one", "_law_other"] spTwo := by
  refine F.ok scTwo (fun vs H Q E h => ?_) (fun cdv A outer s H vs Q E hr h => ?_)
  · obtain ⟨a, b, t, u, rfl, _⟩ := h
    rfl
  · obtain ⟨a, b, t, u, rfl, ha, hb, k⟩ := h
    have nd := scTwo.nd
    refine ⟨_, pss_cons (ps_set (i := 2) nd rfl (Or.inl rfl) pe_dnewT)
      (pss_cons (ps_for PassesOwn.never rfl (pi_range1 rfl T.range (pa_cons pe_int pa_nil)) (pg_name (i := 3) nd rfl (Or.inl rfl))
        (pss_one (ps_for PassesOwn.never rfl (pi_range1 rfl T.range (pa_cons pe_int pa_nil)) (pg_name (i := 4) nd rfl (Or.inl rfl))
          (pss_one (ps_dput (hu_of hr) (pv 2) (pe_tup (pa_cons (pv 3) (pa_cons (pv 4) pa_nil)))
            (pe_op op_add (pe_op op_mul pe_int (pe_dget (hu_of hr) (pv 0) (pe_tup (pa_cons (pe_op op_fdiv (pv 3) pe_int) (pa_cons (pe_op op_fdiv (pv 4) pe_int) pa_nil))) (fun _ _ => rfl)))
              (pe_dget (hu_of hr) (pv 1) (pe_tup (pa_cons (pe_op op_mod (pe_callTy call_int1 (by rfl) T.int boot_int (pa_cons (pv 3) pa_nil)) pe_int) (pa_cons (pe_op op_mod (pe_callTy call_int1 (by rfl) T.int boot_int (pa_cons (pv 4) pa_nil)) pe_int) pa_nil))) (fun _ _ => rfl))) rfl)))))
      (pss_one (ps_ret (pv 2)))), ?_⟩
    refine fun d hd => ?_
    refine ⟨_, rfl, by decide, by decide, ?_⟩
    refine for_range (lo := 0) (n := 4) (fun x σ H' => ∃ (x3 x4 : Option V) (kvs : List (List Key × V)), σ = [some (.ref a), some (.ref b), some (.ref d), x3, x4] ∧ L2.Same H H' ∧ H' d = some (.dT kvs) ∧ TbG (fun i : Ix => i.1 < x ∧ i.2 < 4) keyI (valI (twofoldT t u)) kvs) ?_ ?_ ?_
    · exact ⟨_, _, [], rfl, Same.new hd, upd_same, TbG.nil.congr fun i => by simp⟩
    · rintro x σ H1 hx ⟨x3, x4, kvs, rfl, s1, hd1, tb⟩
      refine at_name (σ' := [some (.ref a), some (.ref b), some (.ref d), some (.int (x : Int)), x4]) (by rw [Int.zero_add]; rfl) ?_
      refine ⟨_, rfl, by decide, by decide, ?_⟩
      refine for_range (lo := 0) (n := 4) (fun y σ H' => ∃ (x4 : Option V) (kvs : List (List Key × V)), σ = [some (.ref a), some (.ref b), some (.ref d), some (.int (x : Int)), x4] ∧ L2.Same H H' ∧ H' d = some (.dT kvs) ∧ TbG (fun i : Ix => (i.1 < x ∧ i.2 < 4) ∨ (i.1 = x ∧ i.2 < y)) keyI (valI (twofoldT t u)) kvs) ?_ ?_ ?_
      · exact ⟨_, kvs, rfl, s1, hd1, tb.row0⟩
      · rintro y σ H2 hy ⟨x4, kvs, rfl, s2, hd2, tb⟩
        refine at_name (σ' := [some (.ref a), some (.ref b), some (.ref d), some (.int (x : Int)), some (.int (y : Int))]) (by rw [Int.zero_add]; rfl) ?_
        have q1 : (x : Int) / 2 = ((x / 2 : Nat) : Int) := by omega
        have q2 : (y : Int) / 2 = ((y / 2 : Nat) : Int) := by omega
        have q3 : (x : Int) % 2 = ((x % 2 : Nat) : Int) := by omega
        have q4 : (y : Int) % 2 = ((y % 2 : Nat) : Int) := by omega
        refine ⟨_, rfl, _, rfl, _, _, rfl, rfl, (by show (0 : Int) < 2 ∧ (2 : Int) < 1073741824; decide), _, rfl, _, _, rfl, rfl, (by show (0 : Int) < 2 ∧ (2 : Int) < 1073741824; decide), (by show 2 ≤ sizeLine; decide), fun t1 ht1 => ?_⟩
        have a1 := Same.new (H := H2) (o := .tup [V.int ((x : Int) / 2), V.int ((y : Int) / 2)]) ht1
        have a2 : upd H2 t1 (.tup [V.int ((x : Int) / 2), V.int ((y : Int) / 2)]) t1 = some (.tup [V.int ((x / 2 : Nat) : Int), V.int ((y / 2 : Nat) : Int)]) := by rw [upd_same, q1, q2]
        generalize upd H2 t1 (.tup [V.int ((x : Int) / 2), V.int ((y : Int) / 2)]) = G1 at a1 a2 ⊢
        refine ⟨a, _, rfl, ((ha.mono s2).mono a1).get (by omega) (by omega) a2, _, _, rfl, rfl, .inl (by decide), ?_⟩
        refine ⟨_, rfl, _, rfl, .inl ⟨_, rfl, _, _, rfl, rfl, (by show (0 : Int) < 2; decide), _, rfl, .inl ⟨_, rfl, _, _, rfl, rfl, (by show (0 : Int) < 2; decide), (by show 2 ≤ sizeLine; decide), fun t2 ht2 => ?_⟩⟩⟩
        have b1 := Same.new (H := G1) (o := .tup [V.int ((x : Int) % 2), V.int ((y : Int) % 2)]) ht2
        have b2 : upd G1 t2 (.tup [V.int ((x : Int) % 2), V.int ((y : Int) % 2)]) t2 = some (.tup [V.int ((x % 2 : Nat) : Int), V.int ((y % 2 : Nat) : Int)]) := by rw [upd_same, q3, q4]
        generalize upd G1 t2 (.tup [V.int ((x : Int) % 2), V.int ((y : Int) % 2)]) = G2 at b1 b2 ⊢
        refine ⟨b, _, rfl, (((hb.mono s2).mono a1).mono b1).get (by omega) (by omega) b2, _, _, rfl, rfl, ?_⟩
        refine ⟨_, rfl, _, rfl, _, rfl, (by show 2 ≤ sizeLine; decide), fun t3 ht3 => ?_⟩
        have c1 := Same.new (H := G2) (o := .tup [V.int (x : Int), V.int (y : Int)]) ht3
        have ev : (2 * (t (x / 2) (y / 2) : Int) + (u (x % 2) (y % 2) : Int)) = ((twofoldT t u x y : Nat) : Int) := by
          unfold twofoldT
          omega
        refine ⟨d, _, rfl, DPut.t (k := keyI (x, y)) (c1 _ _ (b1 _ _ (a1 _ _ hd2))) upd_same (tb.few fun i hi => by omega), _, _, rfl, fun z o e => ?_, upd_same, ?_⟩
        · rw [upd_ne (ne_of_none e hd)]
          exact c1 _ _ (b1 _ _ (a1 _ _ (s2 _ _ e)))
        · have tn := tb.next
          rw [show valI (twofoldT t u) (x, y) = V.int (2 * (t (x / 2) (y / 2) : Int) + (u (x % 2) (y % 2) : Int)) from congrArg V.int ev.symm] at tn
          exact tn
      · rintro σ H2 ⟨x4, kvs, rfl, s2, hd2, tb⟩
        exact ⟨_, _, kvs, rfl, s2, hd2, tb.row⟩
    · rintro σ H1 ⟨x3, x4, kvs, rfl, s1, hd1, tb⟩
      exact ⟨_, rfl, k d H1 s1 hd ⟨kvs, hd1, tb⟩⟩
def spTwin : Sp := fun vs H Q _ => ∃ (a : Addr) (n v : Nat) (t : Nat → Nat → Nat), vs = [.ref a, .int n, .int v] ∧ 0 < n ∧ n < 4 ∧ v < n ∧ TabAt H a n t ∧ ∀ (q : Addr) (H' : Hp), L2.Same H H' → H q = none → TabAt H' q (n + 1) (twinT t n v) → Q (.ref q) H'
abbrev nTwin : List Str := ["_law_told", "_law_many", "_law_twin", "_law_head", "_law_found", "_law_x", "_law_y"]
theorem scTwin : FnScope nTwin ["_law_told", "_law_many", "_law_twin"] (defScope sTwin) := ⟨rfl, rfl, rfl, by decide +kernel, rfl, by decide +kernel, by decide +kernel⟩
theorem ok_twin {f : Addr} {fd : FuncData} (F : Fun K "_law_twin_table" "_law_twin_table" sTwin f fd) (T : Blt mg) (hl : mg "list" = none) : FnOk P w K mg base CX0 1 f fd ["_law_told", "_law_many", "_law_twin"] spTwin := by
  refine F.ok scTwin (fun vs H Q E h => ?_) (fun cdv A outer s H vs Q E hr h => ?_)
  · obtain ⟨a, n, v, t, rfl, _⟩ := h
    rfl
  · obtain ⟨a, n, v, t, rfl, n0, n4, hv, ha, k⟩ := h
    have nd := scTwin.nd
    refine ⟨_, pss_cons (ps_set (i := 3) nd rfl (Or.inl rfl) (pe_op op_cat (pe_listRg rfl (by rfl) hl (prg_1 (by rfl) T.range (pv 1))) (pe_lst (pa_cons (pv 2) pa_nil))))
      (pss_cons (ps_set (i := 4) nd rfl (Or.inl rfl) pe_dnewT)
      (pss_cons (ps_for PassesOwn.never rfl (pi_range1 rfl T.range (pa_cons (pe_op op_add (pv 1) pe_int) pa_nil)) (pg_name (i := 5) nd rfl (Or.inl rfl))
        (pss_one (ps_for PassesOwn.never rfl (pi_range1 rfl T.range (pa_cons (pe_op op_add (pv 1) pe_int) pa_nil)) (pg_name (i := 6) nd rfl (Or.inl rfl))
          (pss_one (ps_dput (hu_of hr) (pv 4) (pe_tup (pa_cons (pv 5) (pa_cons (pv 6) pa_nil)))
            (pe_dget (hu_of hr) (pv 0) (pe_tup (pa_cons (pe_ix ix_list (pv 3) (pv 5) (fun _ _ => rfl)) (pa_cons (pe_ix ix_list (pv 3) (pv 6) (fun _ _ => rfl)) pa_nil))) (fun _ _ => rfl)) rfl)))))
      (pss_one (ps_ret (pv 4))))), ?_⟩
    refine ⟨_, rfl, _, rfl, ⟨by decide, by decide, by omega, by omega, by omega⟩, fun q1 hq1 => ?_⟩
    have a1 := Same.new (H := H) (o := .lst (rgV 0 n)) hq1
    have a2 : upd H q1 (.lst (rgV 0 n)) q1 = _ := upd_same
    generalize upd H q1 (.lst (rgV 0 n)) = G1 at a1 a2 ⊢
    refine ⟨_, rfl, (by show 1 ≤ sizeLine; decide), fun q2 hq2 => ?_⟩
    have b1 := Same.new (H := G1) (o := .lst [V.int (v : Int)]) hq2
    have b2 : upd G1 q2 (.lst [V.int (v : Int)]) q2 = _ := upd_same
    generalize upd G1 q2 (.lst [V.int (v : Int)]) = G2 at b1 b2 ⊢
    have hlen : (rgV 0 n).length = n := by
      unfold rgV
      rw [List.length_map, List.length_range]
      omega
    refine ⟨q1, q2, _, _, rfl, rfl, b1 _ _ a2, b2, (by rw [hlen]; show n + 1 ≤ sizeLine; rw [sizeLine_eq]; omega), fun q3 hq3 => ?_⟩
    have c1 := Same.new (H := G2) (o := .lst (rgV 0 n ++ [V.int (v : Int)])) hq3
    have c2 : upd G2 q3 (.lst (rgV 0 n ++ [V.int (v : Int)])) q3 = _ := upd_same
    generalize upd G2 q3 (.lst (rgV 0 n ++ [V.int (v : Int)])) = G3 at c1 c2 ⊢
    have hh : ∀ x : Nat, x < n + 1 → (rgV 0 (n : Int) ++ [V.int (v : Int)])[x]? = some (.int ((if x < n then x else v : Nat) : Int)) := by
      intro x hx
      by_cases z : x < n
      · rw [List.getElem?_append_left (by rw [hlen]; exact z), if_pos z]
        unfold rgV
        have e0 : ((n : Int) - 0).toNat = n := by omega
        rw [e0, List.getElem?_map, List.getElem?_range z]
        show some (V.int (0 + (x : Int))) = _
        rw [Int.zero_add]
      · have e1 : x = n := by omega
        subst e1
        rw [List.getElem?_append_right (by rw [hlen]; omega), hlen, if_neg z, Nat.sub_self]
        rfl
    have hs : L2.Same H G3 := fun z o e => c1 _ _ (b1 _ _ (a1 _ _ e))
    refine at_name (σ' := [some (.ref a), some (.int n), some (.int v), some (.ref q3), none, none, none]) rfl ?_
    refine fun d hd => ?_
    have d1 := Same.new (H := G3) (o := .dT []) hd
    have hd0 : H d = none := by
      cases e : H d with
      | none => rfl
      | some o => rw [hs _ _ e] at hd; cases hd
    refine at_name (σ' := [some (.ref a), some (.int n), some (.int v), some (.ref q3), some (.ref d), none, none]) rfl ?_
    have hq3d : upd G3 d (.dT []) q3 = some (.lst (rgV 0 n ++ [V.int (v : Int)])) := d1 _ _ c2
    have d2 : upd G3 d (.dT []) d = some (.dT []) := upd_same
    have hs0 : L2.Same H (upd G3 d (.dT [])) := fun z o e => d1 _ _ (hs _ _ e)
    generalize upd G3 d (.dT []) = G4 at d2 hq3d hs0 ⊢
    refine ⟨_, rfl, _, _, rfl, rfl, _, rfl, by omega, by omega, ?_⟩
    refine for_range (lo := 0) (n := ((n : Int) + 1).toNat) (fun x σ H' => ∃ (x5 x6 : Option V) (kvs : List (List Key × V)), σ = [some (.ref a), some (.int n), some (.int v), some (.ref q3), some (.ref d), x5, x6] ∧ L2.Same H H' ∧ H' q3 = some (.lst (rgV 0 n ++ [V.int (v : Int)])) ∧ H' d = some (.dT kvs) ∧ TbG (fun i : Ix => i.1 < x ∧ i.2 < n + 1) keyI (valI (twinT t n v)) kvs) ?_ ?_ ?_
    · exact ⟨_, _, [], rfl, hs0, hq3d, d2, TbG.nil.congr fun i => by simp⟩
    · rintro x σ H1 hx ⟨x5, x6, kvs, rfl, s1, hq1, hd1, tb⟩
      refine at_name (σ' := [some (.ref a), some (.int n), some (.int v), some (.ref q3), some (.ref d), some (.int (x : Int)), x6]) (by rw [Int.zero_add]; rfl) ?_
      refine ⟨_, rfl, _, _, rfl, rfl, _, rfl, by omega, by omega, ?_⟩
      refine for_range (lo := 0) (n := ((n : Int) + 1).toNat) (fun y σ H' => ∃ (x6 : Option V) (kvs : List (List Key × V)), σ = [some (.ref a), some (.int n), some (.int v), some (.ref q3), some (.ref d), some (.int (x : Int)), x6] ∧ L2.Same H H' ∧ H' q3 = some (.lst (rgV 0 n ++ [V.int (v : Int)])) ∧ H' d = some (.dT kvs) ∧ TbG (fun i : Ix => (i.1 < x ∧ i.2 < n + 1) ∨ (i.1 = x ∧ i.2 < y)) keyI (valI (twinT t n v)) kvs) ?_ ?_ ?_
      · exact ⟨_, kvs, rfl, s1, hq1, hd1, tb.row0⟩
      · rintro y σ H2 hy ⟨x6, kvs, rfl, s2, hq2, hd2, tb⟩
        refine at_name (σ' := [some (.ref a), some (.int n), some (.int v), some (.ref q3), some (.ref d), some (.int (x : Int)), some (.int (y : Int))]) (by rw [Int.zero_add]; rfl) ?_
        have hx' : x < n + 1 := by omega
        have hy' : y < n + 1 := by omega
        refine ⟨_, rfl, _, rfl, _, rfl, q3, _, (x : Int), _, rfl, rfl, SqL.of hq2, atI_nat (hh x hx'), _, rfl, _, rfl, q3, _, (y : Int), _, rfl, rfl, SqL.of hq2, atI_nat (hh y hy'), (by show 2 ≤ sizeLine; decide), fun t1 ht1 => ?_⟩
        have e1 := Same.new (H := H2) (o := .tup [V.int ((if x < n then x else v : Nat) : Int), V.int ((if y < n then y else v : Nat) : Int)]) ht1
        have e2 : upd H2 t1 (.tup [V.int ((if x < n then x else v : Nat) : Int), V.int ((if y < n then y else v : Nat) : Int)]) t1 = _ := upd_same
        generalize upd H2 t1 (.tup [V.int ((if x < n then x else v : Nat) : Int), V.int ((if y < n then y else v : Nat) : Int)]) = G5 at e1 e2 ⊢
        refine ⟨a, _, rfl, ((ha.mono s2).mono e1).get (by split <;> omega) (by split <;> omega) e2, _, rfl, _, rfl, _, rfl, (by show 2 ≤ sizeLine; decide), fun t3 ht3 => ?_⟩
        have f1 := Same.new (H := G5) (o := .tup [V.int (x : Int), V.int (y : Int)]) ht3
        refine ⟨d, _, rfl, DPut.t (k := keyI (x, y)) (f1 _ _ (e1 _ _ hd2)) upd_same (tb.few fun i hi => by omega), _, _, rfl, fun z o e => ?_, ?_, upd_same, tb.next⟩
        · rw [upd_ne (ne_of_none e hd0)]
          exact f1 _ _ (e1 _ _ (s2 _ _ e))
        · rw [upd_ne (ne_of_none c2 hd)]
          exact f1 _ _ (e1 _ _ hq2)
      · rintro σ H2 ⟨x6, kvs, rfl, s2, hq2, hd2, tb⟩
        have hn : ((n : Int) + 1).toNat = n + 1 := by omega
        rw [hn] at tb
        exact ⟨_, _, kvs, rfl, s2, hq2, hd2, tb.row⟩
    · rintro σ H1 ⟨x5, x6, kvs, rfl, s1, hq1, hd1, tb⟩
      have hn : ((n : Int) + 1).toNat = n + 1 := by omega
      rw [hn] at tb
      exact ⟨_, rfl, k d H1 s1 hd0 ⟨kvs, hd1, tb⟩⟩
end
end KT
set_option Elab.async false
set_option linter.all false
set_option maxRecDepth 100000
set_option maxHeartbeats 4000000
namespace KT
open PySem L2 PyProof.Rows DTp
section
variable {P : Program} {w : World} {K : PySem.W.Frag} {mg : Str → Option Value} {base : Heap}
/-- a table that may be read, locked or not -/
def TabRd (H : Hp) (a : Addr) (n : Nat) (t : Nat → Nat → Nat) : Prop := ∃ kvs, Rd H a (.dT kvs) ∧ TbG (Sq n) keyI (valI t) kvs
theorem TabRd.mono {H H' : Hp} {a : Addr} {n : Nat} {t : Nat → Nat → Nat} (s : L2.Same H H') (h : TabRd H a n t) : TabRd H' a n t := by
  obtain ⟨kvs, h1, h2⟩ := h
  rcases h1 with e | ⟨od, e⟩
  · exact ⟨kvs, .inl (s _ _ e), h2⟩
  · exact ⟨kvs, .inr ⟨od, s _ _ e⟩, h2⟩
theorem TabRd.get {H : Hp} {a b : Addr} {n x y : Nat} {t : Nat → Nat → Nat} (h : TabRd H a n t) (hx : x < n) (hy : y < n) (hb : H b = some (.tup [V.int (x : Int), V.int (y : Int)])) : DGet H a (.ref b) (some (.int (t x y))) := by
  obtain ⟨kvs, h1, h2⟩ := h
  have e : DGet H a (.ref b) (valV kvs (keyI (x, y))) := .inr ⟨kvs, keyI (x, y), b, h1, rfl, hb, rfl⟩
  rw [h2.get (i := (x, y)) ⟨hx, hy⟩] at e
  exact e
theorem But.back {p q : Addr} {H H1 : Hp} {o : HO} (a : But p H H1) (hq : H q = none) : But p H (L2.upd H1 q o) := a.fresh hq
def spAnyT : Sp := fun vs H Q _ => ∃ (p : Addr) (n : Nat) (B : Int), vs = [.ref p, .int n] ∧ PurseAt H p B ∧ 0 ≤ B ∧ B ≤ 990000 ∧ 0 < n ∧ n < 5 ∧ ∀ (q : Addr) (t : Nat → Nat → Nat) (H' : Hp), H q = none → But p H H' → PurseAt H' p (B + 100) → TabAt H' q n t → Free n t → Q (.ref q) H'
abbrev nAnyT : List Str := ["_law_purse_here", "_law_many", "_law_told", "_law_x", "_law_y", "_law_z"]
theorem scAnyT : FnScope nAnyT ["_law_purse_here", "_law_many"] (defScope sAny) := ⟨rfl, rfl, rfl, by decide +kernel, rfl, by decide +kernel, by decide +kernel⟩
theorem ok_anyT {f : Addr} {fd : FuncData} (F : Fun K "_law_any_table" "_law_any_table" sAny f fd) (T : Blt mg) (ha : mg "any" = none) (D : DrawC P w K mg base) (Cy : Cee P w K mg base 1 "_law_cyclic_table" ["_law_many", "_law_lead"] spCyc) : FnOk P w K mg base CX0 3 f fd ["_law_purse_here", "_law_many"] spAnyT := by
  refine F.ok scAnyT (fun vs H Q E h => ?_) (fun cdv A outer s H vs Q E hr h => ?_)
  · obtain ⟨p, n, B, rfl, _⟩ := h
    rfl
  · obtain ⟨p, n, B, rfl, hP, B0, B1, n0, n5, k⟩ := h
    have nd := scAnyT.nd
    refine ⟨_, pss_cons (ps_set (i := 2) nd rfl (Or.inr rfl) pe_dnewT)
      (pss_cons (ps_for PassesOwn.never rfl (pi_range1 rfl T.range (pa_cons (pv 1) pa_nil)) (pg_name (i := 3) nd rfl (Or.inr rfl))
        (pss_one (ps_for PassesOwn.never rfl (pi_range1 rfl T.range (pa_cons (pv 1) pa_nil)) (pg_name (i := 4) nd rfl (Or.inr rfl))
          (pss_one (ps_dput (hu_of hr) (pv 2) (pe_tup (pa_cons (pv 3) (pa_cons (pv 4) pa_nil))) (pe_c D hr rfl (pa_cons (pv 0) (pa_cons (pv 1) pa_nil))) rfl)))))
      (pss_cons (ps_lock (ps_for PassesOwn.never rfl (pi_keys (pv 2)) (pg_tup rfl (pgs_cons (pg_name (i := 3) nd rfl (Or.inr rfl)) (pgs_cons (pg_name (i := 4) nd rfl (Or.inr rfl)) pgs_nil)))
        (pss_one (ps_if (pt_val (pe_callB (cr_any rfl) (by rfl) ha (by decide +kernel) (pa_cons
            (pe_lc (own := [("_law_z", 5)]) (g := gName 5) (tt := tYes)
              (te := tOp rNe (tDGet (tVar 2) (tTup (tCons (tDGet (tVar 2) (tTup (tCons (tVar 3) (tCons (tVar 4) tNil)))) (tCons (tVar 5) tNil)))) (tDGet (tVar 2) (tTup (tCons (tVar 3) (tCons (tDGet (tVar 2) (tTup (tCons (tVar 4) (tCons (tVar 5) tNil)))) tNil)))))
              rfl nd (pi_range1 rfl T.range (pa_cons (pv 1) pa_nil)) (blkOk_by (own := [("_law_z", 5)]) (N := nAnyT) (sc := defScope sAny) (by decide +kernel))
              (fun _ _ _ _ _ => pg_name (i := 5) nd rfl (Or.inl rfl)) (fun _ _ _ _ _ => pts_nil)
              (fun _ _ _ _ _ => pe_cmpR op_ne (pe_dget (hu_of hr) (pv 2) (pe_tup (pa_cons (pe_dget (hu_of hr) (pv 2) (pe_tup (pa_cons (pv 3) (pa_cons (pv 4) pa_nil))) (fun _ _ => rfl)) (pa_cons (pv 5) pa_nil))) (fun _ _ => rfl))
                (pe_dget (hu_of hr) (pv 2) (pe_tup (pa_cons (pv 3) (pa_cons (pe_dget (hu_of hr) (pv 2) (pe_tup (pa_cons (pv 4) (pa_cons (pv 5) pa_nil))) (fun _ _ => rfl)) pa_nil))) (fun _ _ => rfl)) (nomark _))) pa_nil)))
          (pss_one (ps_ret (pe_c Cy hr rfl (pa_cons (pv 1) (pa_cons (pe_op op_add pe_int (pe_c D hr rfl (pa_cons (pv 0) (pa_cons (pv 1) pa_nil)))) pa_nil))))) pss_nil))))
      (pss_one (ps_ret (pv 2))))), ?_⟩
    refine fun d hd => ?_
    have npd : p ≠ d := hP.ne hd
    refine ⟨_, rfl, _, rfl, by omega, by omega, ?_⟩
    refine for_range (lo := 0) (n := (n : Int).toNat) (fun x σ H' => ∃ (x3 x4 : Option V) (kvs : List (List Key × V)) (t : Nat → Nat → Nat), σ = [some (.ref p), some (.int n), some (.ref d), x3, x4, none] ∧ But p H H' ∧ PurseAt H' p (B + 20 * x) ∧ H' d = some (.dT kvs) ∧ TbG (fun i : Ix => i.1 < x ∧ i.2 < n) keyI (valI t) kvs ∧ ∀ i j, t i j < n) ?_ ?_ ?_
    · exact ⟨_, _, [], fun _ _ => 0, rfl, (But.refl p H).new hd, (hP.upd npd).le (by omega), upd_same, TbG.nil.congr fun i => by simp, fun _ _ => n0⟩
    · rintro x σ H1 hx ⟨x3, x4, kvs, t, rfl, bt1, hP1, hd1, tb, tn⟩
      refine at_name (σ' := [some (.ref p), some (.int n), some (.ref d), some (.int (x : Int)), x4, none]) (by rw [Int.zero_add]; rfl) ?_
      refine ⟨_, rfl, _, rfl, by omega, by omega, ?_⟩
      refine for_range (lo := 0) (n := (n : Int).toNat) (fun y σ H' => ∃ (x4 : Option V) (kvs : List (List Key × V)) (t : Nat → Nat → Nat), σ = [some (.ref p), some (.int n), some (.ref d), some (.int (x : Int)), x4, none] ∧ But p H H' ∧ PurseAt H' p (B + 20 * x + 4 * y) ∧ H' d = some (.dT kvs) ∧ TbG (fun i : Ix => (i.1 < x ∧ i.2 < n) ∨ (i.1 = x ∧ i.2 < y)) keyI (valI t) kvs ∧ ∀ i j, t i j < n) ?_ ?_ ?_
      · exact ⟨_, kvs, t, rfl, bt1, hP1.le (by omega), hd1, tb.row0, tn⟩
      · rintro y σ H2 hy ⟨x4, kvs, t, rfl, bt2, hP2, hd2, tb, tn⟩
        refine at_name (σ' := [some (.ref p), some (.int n), some (.ref d), some (.int (x : Int)), some (.int (y : Int)), none]) (by rw [Int.zero_add]; rfl) ?_
        refine ⟨_, rfl, _, rfl, p, n, _, rfl, hP2, by omega, by omega, by omega, by omega, fun r H3 bt3 hP3 r0 r1 => ?_⟩
        obtain ⟨j, rfl⟩ := nat_of (m := 0) r0
        have hd3 : H3 d = some (.dT kvs) := bt3 d _ npd.symm hd2
        refine ⟨_, rfl, _, rfl, _, rfl, (by show 2 ≤ sizeLine; decide), fun t1 ht1 => ?_⟩
        have e1 := Same.new (H := H3) (o := .tup [V.int (x : Int), V.int (y : Int)]) ht1
        have tb2 : TbG (fun i : Ix => (i.1 < x ∧ i.2 < n) ∨ (i.1 = x ∧ i.2 < y)) keyI (valI fun a b => if a = x ∧ b = y then j else t a b) kvs := tb.congrV fun i hi => by
          obtain ⟨a, b⟩ := i
          show V.int ((t a b : Nat) : Int) = V.int ((if a = x ∧ b = y then j else t a b : Nat) : Int)
          rw [if_neg]
          rintro ⟨rfl, rfl⟩
          simp at hi
        have tb3 := tb2.next
        rw [show valI (fun a b => if a = x ∧ b = y then j else t a b) (x, y) = V.int (j : Int) from congrArg (fun z : Nat => V.int (z : Int)) (if_pos ⟨rfl, rfl⟩)] at tb3
        refine ⟨d, _, rfl, DPut.t (k := keyI (x, y)) (e1 _ _ hd3) upd_same (tb.few fun i hi => by omega), _, _, _, rfl, ?_, ?_, upd_same, tb3, fun a b => ?_⟩
        · exact (((bt2.trans bt3).new ht1)).fresh hd
        · exact ((hP3.upd (hP3.ne ht1)).upd npd).le (by omega)
        · split
          · omega
          · exact tn a b
      · rintro σ H2 ⟨x4, kvs, t, rfl, bt2, hP2, hd2, tb, tn⟩
        have hn : (n : Int).toNat = n := by omega
        rw [hn] at tb
        exact ⟨_, _, kvs, t, rfl, bt2, hP2.le (by omega), hd2, tb.row, tn⟩
    · rintro σ H1 ⟨x3, x4, kvs, t, rfl, bt1, hP1, hd1, tb, tn⟩
      have hn : (n : Int).toNat = n := by omega
      rw [hn] at tb
      have tbS : TbG (Sq n) keyI (valI t) kvs := tb
      obtain ⟨is, e1, ndi, e2⟩ := tbS.idxs keyI_inj
      have li : is.length = kvs.length := by rw [e1, List.length_map]
      refine ⟨d, .dT kvs, hd1, trivial, fun od => ?_⟩
      have G0 : ∃ G, G = upd H1 d (.frz od (.dT kvs)) := ⟨_, rfl⟩
      obtain ⟨G, eG⟩ := G0
      have hG : G d = some (.frz od (.dT kvs)) := by rw [eG, upd_same]
      have btG : But p H G := by rw [eG]; exact bt1.fresh hd
      have hPG : PurseAt G p (B + 80) := by rw [eG]; exact (hP1.upd npd).le (by omega)
      have tG : TabRd G d n t := ⟨kvs, .inr ⟨od, hG⟩, tbS⟩
      rw [← eG]
      clear eG
      refine ⟨_, rfl, d, od, rfl, .inr ⟨kvs, hG, ?_⟩⟩
      refine for_it walk_keysT (fun i σ H' => ∃ x3 x4 : Option V, σ = [some (.ref p), some (.int n), some (.ref d), x3, x4, none] ∧ L2.Same G H' ∧ ∀ a ∈ is.take i, ∀ z, z < n → t (t a.1 a.2) z = t a.1 (t a.2 z)) ?_ ?_ ?_ ?_
      · exact ⟨_, _, rfl, fun _ _ e => e, fun a ha => by rw [List.take_zero] at ha; cases ha⟩
      · rintro i σ H2 hi ⟨x3, x4, rfl, s2, _⟩
        exact s2 _ _ hG
      · rintro i v σ H0 H2 hi ⟨x3, x4, rfl, s2, hall⟩ ⟨rfl, kk, vv, q, hk, rfl, hq⟩
        have hi' : i < is.length := by omega
        have ej : is[i]? = some is[i] := List.getElem?_eq_getElem hi'
        have ek : kvs[i]? = some (keyI is[i], valI t is[i]) := by
          have e3 := congrArg (fun l : List (List Key × V) => l[i]?) e1
          simp only [List.getElem?_map, ej] at e3
          exact e3
        rw [hk] at ek
        have ek := Option.some.inj ek
        have hxy : Sq n is[i] := (e2 _).mpr (List.getElem_mem hi')
        obtain ⟨⟨x, y⟩, exy⟩ : ∃ a, a = is[i] := ⟨_, rfl⟩
        rw [← exy] at ek hxy ej
        obtain ⟨rfl, rfl⟩ : kk = keyI (x, y) ∧ vv = valI t (x, y) := ⟨congrArg Prod.fst ek, congrArg Prod.snd ek⟩
        obtain ⟨hx, hy⟩ : x < n ∧ y < n := hxy
        have hq' : H2 q = some (.tup [V.int (x : Int), V.int (y : Int)]) := hq
        refine ⟨q, _, rfl, SqT.of hq', rfl, _, _, rfl, ?_⟩
        refine at_name (σ' := [some (.ref p), some (.int n), some (.ref d), some (.int (x : Int)), x4, none]) rfl ?_
        refine ⟨_, _, rfl, ?_⟩
        refine at_name (σ' := [some (.ref p), some (.int n), some (.ref d), some (.int (x : Int)), some (.int (y : Int)), none]) rfl ?_
        refine ⟨rfl, ?_⟩
        refine ⟨_, rfl, _, rfl, by omega, by omega, fun L hL => ?_⟩
        refine lc_range (lo := 0) (n := (n : Int).toNat) (fun z H' => L2.Same G H' ∧ H' L = some (.lst ((List.map (fun z : Nat => !decide (V.int (t (t x y) z : Nat) = V.int (t x (t y z) : Nat))) (List.range z)).map V.bl))) ?_ ?_ ?_
        · exact ⟨fun b o e => by rw [upd_ne (ne_of_none (s2 _ _ e) hL)]; exact s2 _ _ e, upd_same⟩
        · rintro z H3 hz ⟨s3, hL3⟩
          have hxn : t x y < n := tn _ _
          have hzn : z < n := by omega
          refine ⟨rfl, yes_if ?_⟩
          refine ⟨_, rfl, _, rfl, _, rfl, _, rfl, (by show 2 ≤ sizeLine; decide), fun t1 ht1 => ?_⟩
          have a1 := Same.new (H := H3) (o := .tup [V.int (x : Int), V.int (y : Int)]) ht1
          have a2 : upd H3 t1 (.tup [V.int (x : Int), V.int (y : Int)]) t1 = _ := upd_same
          generalize upd H3 t1 (.tup [V.int (x : Int), V.int (y : Int)]) = G1 at a1 a2 ⊢
          refine ⟨d, _, rfl, ((tG.mono s3).mono a1).get hx hy a2, _, rfl, (by show 2 ≤ sizeLine; decide), fun t2 ht2 => ?_⟩
          rw [Int.zero_add]
          have b1 := Same.new (H := G1) (o := .tup [V.int (t x y : Nat), V.int (z : Int)]) ht2
          have b2 : upd G1 t2 (.tup [V.int (t x y : Nat), V.int (z : Int)]) t2 = _ := upd_same
          generalize upd G1 t2 (.tup [V.int (t x y : Nat), V.int (z : Int)]) = G2 at b1 b2 ⊢
          refine ⟨d, _, rfl, (((tG.mono s3).mono a1).mono b1).get hxn hzn b2, ?_⟩
          refine ⟨_, rfl, _, rfl, _, rfl, _, rfl, _, rfl, (by show 2 ≤ sizeLine; decide), fun t3 ht3 => ?_⟩
          have c1 := Same.new (H := G2) (o := .tup [V.int (y : Int), V.int (z : Int)]) ht3
          have c2 : upd G2 t3 (.tup [V.int (y : Int), V.int (z : Int)]) t3 = _ := upd_same
          generalize upd G2 t3 (.tup [V.int (y : Int), V.int (z : Int)]) = G3 at c1 c2 ⊢
          refine ⟨d, _, rfl, ((((tG.mono s3).mono a1).mono b1).mono c1).get hy hzn c2, (by show 2 ≤ sizeLine; decide), fun t4 ht4 => ?_⟩
          have d1 := Same.new (H := G3) (o := .tup [V.int (x : Int), V.int (t y z : Nat)]) ht4
          have d2 : upd G3 t4 (.tup [V.int (x : Int), V.int (t y z : Nat)]) t4 = _ := upd_same
          generalize upd G3 t4 (.tup [V.int (x : Int), V.int (t y z : Nat)]) = G4 at d1 d2 ⊢
          have al : ∀ b o, H3 b = some o → G4 b = some o := fun b o e => d1 _ _ (c1 _ _ (b1 _ _ (a1 _ _ e)))
          refine ⟨d, _, rfl, (((((tG.mono s3).mono a1).mono b1).mono c1).mono d1).get hx (tn _ _) d2, rfl, ?_⟩
          refine ⟨_, al _ _ hL3, ?_, ?_, ?_⟩
          · rw [List.length_map, List.length_map, List.length_range]
            exact small1000 (by omega)
          · intro b o e
            rw [upd_ne (ne_of_none (s2 _ _ e) hL)]
            exact al _ _ (s3 _ _ e)
          · rw [upd_same, List.range_succ, List.map_append, List.map_append]
            rfl
        · rintro H3 ⟨s3, hL3⟩
          have hn : (n : Int).toNat = n := by omega
          rw [hn] at hL3
          refine ⟨L, _, rfl, SqL.of hL3, _, rfl, ?_⟩
          refine ite2 (fun hany => ?_) (fun hany => ?_)
          · refine ⟨_, rfl, _, rfl, _, rfl, p, n, B + 80, rfl, hPG.mono s3, by omega, by omega, by omega, by omega, fun r H4 bt4 hP4 r0 r1 => ?_⟩
            obtain ⟨j, rfl⟩ := nat_of (m := 0) r0
            refine ⟨_, _, rfl, rfl, ?_⟩
            refine ⟨n, 1 + j, rfl, n0, n5, by omega, by omega, fun q H5 s5 hq5 tq => ?_⟩
            have hd5 : H5 d = some (.frz od (.dT kvs)) := s5 _ _ (bt4 d _ npd.symm (s3 _ _ hG))
            have hd4 : H4 d = some (.frz od (.dT kvs)) := bt4 d _ npd.symm (s3 _ _ hG)
            have nqd : q ≠ d := fun e => by rw [e, hd4] at hq5; cases hq5
            refine ⟨hd5, ?_⟩
            have bt5 : But p H H5 := ((btG.same s3).trans bt4).same s5
            have hq0 : H q = none := ((btG.same s3).trans bt4).free hP4 hq5
            refine k q _ _ hq0 (bt5.fresh hd) (((hP4.mono s5).upd npd).le (by omega)) ?_ (free_of (cyclic_free n n5 n0 (1 + j) (by omega) (by omega)))
            obtain ⟨kv2, f1, f2⟩ := tq
            exact ⟨kv2, by rw [upd_ne nqd]; exact f1, f2⟩
          · refine ⟨_, _, rfl, fun b o e => s3 _ _ e, fun a ha z hz => ?_⟩
            rw [take_next' ej] at ha
            rcases List.mem_append.mp ha with ha | ha
            · exact hall a ha z hz
            · rw [List.mem_singleton.mp ha]
              refine Classical.byContradiction fun ne => hany ?_
              refine List.any_eq_true.mpr ⟨true, List.mem_map.mpr ⟨z, List.mem_range.mpr hz, ?_⟩, rfl⟩
              show (!decide (V.int (t (t x y) z : Nat) = V.int (t x (t y z) : Nat))) = true
              rw [decide_eq_false]
              · rfl
              · intro e
                have e5 : ((t (t x y) z : Nat) : Int) = ((t x (t y z) : Nat) : Int) := by injection e
                exact ne (by show t (t x y) z = t x (t y z); omega)
      · rintro σ H2 ⟨x3, x4, rfl, s2, hall⟩
        refine ⟨s2 _ _ hG, ?_⟩
        rw [← li, List.take_length] at hall
        refine ⟨_, rfl, k d t _ hd ((btG.same s2).fresh hd) (((hPG.mono s2).upd npd).le (by omega)) ⟨kvs, upd_same, tbS⟩ ⟨fun x y hx hy => tn x y, fun x y z hx hy hz => hall (x, y) ((e2 (x, y)).mp ⟨hx, hy⟩) z hz⟩⟩
end
end KT
set_option Elab.async false
set_option linter.all false
set_option maxRecDepth 100000
set_option maxHeartbeats 4000000
namespace KT
open PySem L2 PyProof.Rows DTp
abbrev Asc (ws : List Str) : Prop := ws.Pairwise ltT
theorem ltT_asym {x y : Str} (a : ltT x y) : ¬ ltT y x := fun b => ltT_irr x (ltT_trans a b)
theorem Asc.nodup {ws : List Str} (h : Asc ws) : ws.Nodup := List.Pairwise.imp (S := fun a b => a ≠ b) (fun {a b} (q : ltT a b) (e : a = b) => ltT_irr a (by subst e; exact q)) h
theorem Asc.eq {xs ys : List Str} (h : Asc xs) (k : Asc ys) (p : xs.Perm ys) : xs = ys := List.Perm.eq_of_pairwise (le := ltT) (fun a b _ _ q r => absurd r (ltT_asym q)) h k p
theorem risingS_asc : ∀ (ws : List Str) (x : Str), risingS x ws = true → (x :: ws).Nodup → Asc (x :: ws)
  | [], x, _, _ => List.pairwise_singleton _ _
  | y :: ws, x, h, nd => by
    have h' : (!PySem.Spec.ltCps y.cps.toList x.cps.toList && risingS y ws) = true := h
    rw [Bool.and_eq_true, Bool.not_eq_true'] at h'
    obtain ⟨h1, h2⟩ := h'
    have nd' := List.nodup_cons.mp nd
    have ih := risingS_asc ws y h2 nd'.2
    have xy : ltT x y := by
      rcases ltT_tri x y with z | z | z
      · exact z
      · subst z; exact absurd List.mem_cons_self nd'.1
      · rw [ltCps_eq, decide_eq_true z] at h1; cases h1
    refine List.pairwise_cons.mpr ⟨fun z hz => ?_, ih⟩
    rcases List.mem_cons.mp hz with rfl | hz
    · exact xy
    · exact ltT_trans xy ((List.pairwise_cons.mp ih).1 z hz)
theorem sortedS_asc {ws : List Str} (h : sortedS ws = true) (nd : ws.Nodup) : Asc ws := by
  cases ws with
  | nil => exact .nil
  | cons x ws => exact risingS_asc ws x h nd
/-- the words of a list, ascending -/
def ascOf (W : List Str) : List Str := W.mergeSort fun x y => decide (¬ ltT y x)
theorem ascOf_perm (W : List Str) : (ascOf W).Perm W := List.mergeSort_perm _ _
theorem ascOf_asc {W : List Str} (nd : W.Nodup) : Asc (ascOf W) := by
  have h := List.pairwise_mergeSort (le := fun x y : Str => decide (¬ ltT y x)) (fun a b c h1 h2 => ?_) (fun a b => ?_) W
  · have n : (ascOf W).Nodup := (ascOf_perm W).symm.nodup_iff.mp nd |> fun z => by exact z
    refine List.Pairwise.imp ?_ (List.Pairwise.and h n)
    rintro a b ⟨q, ne⟩
    have q' := of_decide_eq_true q
    rcases ltT_tri a b with z | z | z
    · exact z
    · exact absurd z ne
    · exact absurd z q'
  · have h1 := of_decide_eq_true h1
    have h2 := of_decide_eq_true h2
    refine decide_eq_true fun h => ?_
    rcases ltT_tri b c with z | z | z
    · exact h1 (ltT_trans z h)
    · exact h1 (z ▸ h)
    · exact h2 z
  · rcases ltT_tri a b with z | z | z
    · simp [ltT_asym z]
    · subst z; simp [ltT_irr]
    · simp [ltT_asym z]
def pairsW (ws : List Str) : List (Str × Str) := ws.flatMap fun x => ws.map fun y => (x, y)
theorem mem_pairsW {ws : List Str} {p : Str × Str} : p ∈ pairsW ws ↔ p.1 ∈ ws ∧ p.2 ∈ ws := by
  obtain ⟨a, b⟩ := p
  simp [pairsW, List.mem_flatMap]
theorem leP_anti {p q : Str × Str} (a : leP p q) (b : leP q p) : p = q := by
  unfold leP at *
  rcases ltT_tri p.1 q.1 with c | c | c
  · exact absurd (.inl c) b
  · rcases ltT_tri p.2 q.2 with d | d | d
    · exact absurd (.inr ⟨c, d⟩) b
    · exact Prod.ext c d
    · exact absurd (.inr ⟨c.symm, d⟩) a
  · exact absurd (.inl c) a
theorem pairsW_sorted {ws : List Str} (h : Asc ws) : (pairsW ws).Pairwise leP := by
  have row : ∀ (x : Str) (vs : List Str), Asc vs → (vs.map fun y => (x, y)).Pairwise leP := fun x vs hv =>
    List.Pairwise.map _ (fun a b q => by
      rintro (z | ⟨_, z⟩)
      · exact ltT_irr _ z
      · exact ltT_asym q z) hv
  have all : ∀ us : List Str, Asc us → (us.flatMap fun x => ws.map fun y => (x, y)).Pairwise leP := by
    intro us
    induction us with
    | nil => exact fun _ => .nil
    | cons u us ih =>
      intro hu
      rw [List.flatMap_cons]
      have hu' := List.pairwise_cons.mp hu
      refine List.pairwise_append.mpr ⟨row u ws h, ih hu'.2, fun p hp q hq => ?_⟩
      obtain ⟨y, hy, rfl⟩ := List.mem_map.mp hp
      obtain ⟨x, hx, hq⟩ := List.mem_flatMap.mp hq
      obtain ⟨z, hz, rfl⟩ := List.mem_map.mp hq
      have lt := hu'.1 x hx
      rintro (k | ⟨k, _⟩)
      · exact ltT_asym lt k
      · have k' : x = u := k
        rw [k'] at lt
        exact ltT_irr u lt
  exact all ws h
theorem pairsW_nodup {ws : List Str} (h : ws.Nodup) : (pairsW ws).Nodup := by
  have all : ∀ us : List Str, us.Nodup → (us.flatMap fun x => ws.map fun y => (x, y)).Nodup := by
    intro us
    induction us with
    | nil => exact fun _ => .nil
    | cons u us ih =>
      intro hu
      rw [List.flatMap_cons]
      have hu' := List.nodup_cons.mp hu
      refine List.nodup_append.mpr ⟨List.Pairwise.map _ (fun a b q e => q (congrArg Prod.snd e)) h, ih hu'.2, fun p hp q hq e => ?_⟩
      obtain ⟨y, hy, rfl⟩ := List.mem_map.mp hp
      obtain ⟨x, hx, hq⟩ := List.mem_flatMap.mp hq
      obtain ⟨z, hz, rfl⟩ := List.mem_map.mp hq
      have : u = x := congrArg Prod.fst e
      exact hu'.1 (this ▸ hx)
  exact all ws h
theorem pairsW_len (ws : List Str) : (pairsW ws).length = ws.length * ws.length := by
  unfold pairsW
  simp [List.length_flatMap, List.map_const', List.sum_replicate_nat]
def valW (f : Str → Str → Str) (p : Str × Str) : V := .str (f p.1 p.2)
theorem keyP_inj (p q : Str × Str) (h : keyP p = keyP q) : p = q := by
  obtain ⟨a, b⟩ := p
  obtain ⟨c, d⟩ := q
  simp only [keyP, List.cons.injEq, Sum.inr.injEq, and_true] at h
  exact Prod.ext h.1 h.2
/-- the table of f over ws, in the order of ws -/
def tabW (ws : List Str) (f : Str → Str → Str) : List (List Key × V) := (pairsW ws).map fun p => (keyP p, valW f p)
abbrev SqW (ws : List Str) : Str × Str → Prop := fun p => p.1 ∈ ws ∧ p.2 ∈ ws
theorem tabW_tb {ws : List Str} {f : Str → Str → Str} (n : ws.Nodup) : TbG (SqW ws) keyP (valW f) (tabW ws f) :=
  (TbG.ofIdx keyP_inj (pairsW_nodup n)).congr fun p => mem_pairsW
theorem tabW_len (ws : List Str) (f : Str → Str → Str) : (tabW ws f).length = ws.length * ws.length := by
  unfold tabW
  rw [List.length_map, pairsW_len]
/-- one to four words, a product of them that is free of brackets -/
structure KW (ws : List Str) (f : Str → Str → Str) : Prop where
  asc : Asc ws
  pos : 0 < ws.length
  few : ws.length ≤ 4
  wd : ∀ x ∈ ws, Wd x
  cl : ∀ x y, x ∈ ws → y ∈ ws → f x y ∈ ws
  as : ∀ x y z, x ∈ ws → y ∈ ws → z ∈ ws → f (f x y) z = f x (f y z)
/-- entries by other indices -/
theorem TbG.reidx {ι κ : Type} {S : ι → Prop} {S' : κ → Prop} {key : ι → List Key} {val : ι → V} {key' : κ → List Key} {val' : κ → V} {kvs : List (List Key × V)} (h : TbG S key val kvs) (φ : ι → κ) (ψ : κ → ι)
    (a : ∀ i, S i → S' (φ i) ∧ key i = key' (φ i) ∧ val i = val' (φ i)) (b : ∀ j, S' j → S (ψ j) ∧ φ (ψ j) = j) : TbG S' key' val' kvs where
  nd := h.nd
  mem := fun e he => by
    obtain ⟨i, hi, rfl⟩ := h.mem e he
    obtain ⟨a1, a2, a3⟩ := a i hi
    exact ⟨φ i, a1, by rw [a2, a3]⟩
  has := fun j hj => by
    obtain ⟨b1, b2⟩ := b j hj
    have m := h.has _ b1
    obtain ⟨_, a2, a3⟩ := a _ b1
    rw [a2, a3, b2] at m
    exact m
/-- the sorted keys of such a dict are the pairs in order -/
theorem sorted_keys {W ws : List Str} {f : Str → Str → Str} {kvs : List (List Key × V)} (tb : TbG (SqW W) keyP (valW f) kvs) (n : W.Nodup) (as : Asc ws) (pm : ws.Perm W) : ∃ ps : List (Str × Str), kvs.map (·.1) = ps.map keyP ∧ ps.length = kvs.length ∧ kvs = ps.map (fun p => (keyP p, valW f p)) ∧ ∀ qs : List (Str × Str), qs.Perm ps → qs.Pairwise leP → qs = pairsW ws := by
  obtain ⟨is, e1, ndi, e2⟩ := tb.idxs keyP_inj
  refine ⟨is, by rw [e1, List.map_map]; rfl, by rw [e1, List.length_map], e1, fun qs h1 h2 => ?_⟩
  refine List.Perm.eq_of_pairwise (le := leP) (fun a b _ _ => leP_anti) h2 (pairsW_sorted as) (h1.trans ?_)
  refine (List.perm_ext_iff_of_nodup ndi (pairsW_nodup as.nodup)).mpr fun p => ?_
  rw [mem_pairsW, ← e2, pm.mem_iff, pm.mem_iff]
def prodW (W : List Str) (t : Nat → Nat → Nat) (x y : Str) : Str := W.getD (t (W.idxOf x) (W.idxOf y)) ⟨#[]⟩
theorem getD_mem {W : List Str} {j : Nat} (h : j < W.length) : W.getD j ⟨#[]⟩ ∈ W := by
  rw [List.getD_eq_getElem?_getD, List.getElem?_eq_getElem h]
  exact List.getElem_mem h
theorem idxOf_getD {W : List Str} {j : Nat} (n : W.Nodup) (h : j < W.length) : W.idxOf (W.getD j ⟨#[]⟩) = j := by
  rw [List.getD_eq_getElem?_getD, List.getElem?_eq_getElem h]
  exact List.Nodup.idxOf_getElem n j h
theorem getD_idxOf {W : List Str} {x : Str} (h : x ∈ W) : W.getD (W.idxOf x) ⟨#[]⟩ = x := by
  rw [List.getD_eq_getElem?_getD, List.getElem?_eq_getElem (List.idxOf_lt_length_of_mem h)]
  exact List.getElem_idxOf _
theorem kw_of {W : List Str} {n : Nat} {t : Nat → Nat → Nat} (fr : Free n t) (hn : W.length = n) (n0 : 0 < n) (n5 : n < 5) (nd : W.Nodup) (wd : ∀ x ∈ W, Wd x) : KW (ascOf W) (prodW W t) := by
  have pm := ascOf_perm W
  have lt : ∀ x, x ∈ W → W.idxOf x < n := fun x h => hn ▸ List.idxOf_lt_length_of_mem h
  have ix : ∀ x y, x ∈ W → y ∈ W → W.idxOf (prodW W t x y) = t (W.idxOf x) (W.idxOf y) := fun x y hx hy => idxOf_getD nd (by rw [hn]; exact fr.lt _ _ (lt x hx) (lt y hy))
  have mm : ∀ x y, x ∈ W → y ∈ W → prodW W t x y ∈ W := fun x y hx hy => getD_mem (by rw [hn]; exact fr.lt _ _ (lt x hx) (lt y hy))
  refine ⟨ascOf_asc nd, by rw [pm.length_eq, hn]; exact n0, by rw [pm.length_eq, hn]; omega, fun x hx => wd x (pm.mem_iff.mp hx), fun x y hx hy => pm.mem_iff.mpr (mm x y (pm.mem_iff.mp hx) (pm.mem_iff.mp hy)), fun x y z hx hy hz => ?_⟩
  have hx := pm.mem_iff.mp hx
  have hy := pm.mem_iff.mp hy
  have hz := pm.mem_iff.mp hz
  show W.getD (t (W.idxOf (prodW W t x y)) (W.idxOf z)) ⟨#[]⟩ = W.getD (t (W.idxOf x) (W.idxOf (prodW W t y z))) ⟨#[]⟩
  rw [ix x y hx hy, ix y z hy hz, fr.as _ _ _ (lt x hx) (lt y hy) (lt z hz)]
end KT
set_option Elab.async false
set_option linter.all false
set_option maxRecDepth 100000
set_option maxHeartbeats 4000000
namespace KT
open PySem L2 PyProof.Rows DTp
section
variable {P : Program} {w : World} {K : PySem.W.Frag} {mg : Str → Option Value} {base : Heap}
/-- dict([(key, value) for key in told]) -/
theorem rd_keys {ι : Type} {key key2 : ι → List Key} {val val2 : ι → V} {i : Nat} {g : TG} {te : TE} {vs : List Nat} {σ : L2.St} {H : Hp} {Q : VK} {d : Addr} {kvs : List (List Key × V)} {is : List ι} (hi : σ[i]? = some (some (.ref d))) (hd : H d = some (.dT kvs))
    (e1 : kvs = is.map fun a => (key a, val a)) (few : is.length ≤ 1000)
    (step : ∀ a q od H1 (R : VK), a ∈ is → L2.Same (upd H d (.frz od (.dT kvs))) H1 → H1 q = some (.tup ((key a).map kV)) → (∀ t b H3, L2.Same H1 H3 → H3 t = some (.tup [.ref b, val2 a]) → H3 b = some (.tup ((key2 a).map kV)) → R (.ref t) H3) → g (.ref q) (wipe σ vs) H1 fun σ2 H2 => wipe σ2 vs = wipe σ vs ∧ te σ2 H2 R)
    (k : ∀ q H', L2.Same H H' → H q = none → H' q = some (.dT (mergeT [] (is.map fun a => (key2 a, val2 a)))) → Q (.ref q) H') :
    tCB (rDictT K) (tCons (tLockE (tLc (iKeys (tVar i)) g tYes te vs)) tNil) σ H Q := by
  have li : is.length = kvs.length := by rw [e1, List.length_map]
  refine ⟨d, .dT kvs, hd, trivial, fun od => ?_⟩
  refine ⟨_, hi, d, od, rfl, .inr ⟨kvs, upd_same, fun D hD => ?_⟩⟩
  have nDd : D ≠ d := fun e => by rw [e, upd_same] at hD; cases hD
  have hD0 : H D = none := by rw [upd_ne nDd] at hD; exact hD
  refine lc_pairs (key := key2) (val := val2) walk_keysT is li (by omega) hD (fun H' s => s _ _ upd_same) ?_ ?_
  · rintro n x H1 H1' a R ha s1 ⟨rfl, kk, v, q, hk, rfl, hq⟩ kR
    have ek : kvs[n]? = some (key a, val a) := by rw [e1, List.getElem?_map, ha]; rfl
    rw [hk] at ek
    have ek := Option.some.inj ek
    obtain ⟨rfl, rfl⟩ : kk = key a ∧ v = val a := ⟨congrArg Prod.fst ek, congrArg Prod.snd ek⟩
    exact step a q od _ R (List.mem_of_getElem? ha) s1 hq kR
  · intro H1 ps s1 hDp pr
    have hdl : H1 d = some (.frz od (.dT kvs)) := s1 _ _ upd_same
    refine ⟨hdl, D, ps, is.map (fun i => (key2 i, val2 i)), rfl, SqL.of ((upd_ne nDd).trans hDp), ?_, fun q hq => ?_⟩
    · refine PrG.prT (key := key2) (val := val2) (is := is) (Paired.mapP pr fun p a ⟨b, h1, h2⟩ => ⟨b, ?_, ?_⟩)
      · rw [upd_ne (ne_of h1 hdl (fun z => nomatch z))]; exact h1
      · rw [upd_ne (ne_of h2 hdl (fun z => nomatch z))]; exact h2
    · have same : L2.Same H (upd H1 d (.dT kvs)) := fun b o e => by
        by_cases hb : b = d
        · rw [hb] at e ⊢
          rw [hd] at e
          rw [upd_same]; exact e
        · rw [upd_ne hb]
          exact s1 _ _ ((upd_ne hb).trans e)
      have hq0 := same.free hq
      refine k q _ (fun b o e => ?_) hq0 upd_same
      rw [upd_ne (ne_of_none e hq0)]
      exact same _ _ e
/-- dict([(key, value) for key in list]), the list's things the tuples at qs -/
theorem rd_list {ι : Type} {key2 : ι → List Key} {val2 : ι → V} {tl : TE} {g : TG} {te : TE} {vs : List Nat} {σ : L2.St} {H : Hp} {Q : VK} {is : List ι} (Pd : Hp → Prop) (few : is.length ≤ 1000)
    (hl : ∀ R : VK, (∀ l (qs : List (Addr × ι)) H1, qs.map (·.2) = is → H1 l = some (.lst (qs.map fun q => V.ref q.1)) → Pd H1 →
      (∀ (n : Nat) q H2 (R2 : VK), qs[n]? = some q → L2.Same H1 H2 → (∀ t b H3, L2.Same H2 H3 → H3 t = some (.tup [.ref b, val2 q.2]) → H3 b = some (.tup ((key2 q.2).map kV)) → R2 (.ref t) H3) → g (.ref q.1) (wipe σ vs) H2 fun σ2 H3 => wipe σ2 vs = wipe σ vs ∧ te σ2 H3 R2) → R (.ref l) H1) → tl σ H R)
    (k : ∀ q H1 H', Pd H1 → L2.Same H1 H' → H1 q = none → H' q = some (.dT (mergeT [] (is.map fun a => (key2 a, val2 a)))) → Q (.ref q) H') :
    tCB (rDictT K) (tCons (tLc (iList K tl) g tYes te vs) tNil) σ H Q := by
  refine hl _ fun l qs H1 eqs h1 s1 step => ?_
  have lq : qs.length = is.length := by rw [← eqs, List.length_map]
  refine ⟨l, rfl, ⟨_, SqL.of h1⟩, fun D hD => ?_⟩
  have nDl : l ≠ D := ne_of_none h1 hD
  refine lc_pairs (key := key2) (val := val2) (walk_list (xs := qs.map fun q => V.ref q.1)) is (by rw [List.length_map]; exact lq.symm) (by rw [List.length_map]; omega) hD (fun H' s => SqL.of (s _ _ h1)) ?_ ?_
  · rintro n x H2 H2' a R ha s2 ⟨rfl, hx⟩ kR
    rw [List.getElem?_map] at hx
    cases e : qs[n]? with
    | none => rw [e] at hx; cases hx
    | some q =>
      rw [e] at hx
      obtain rfl : V.ref q.1 = x := Option.some.inj hx
      have ea : q.2 = a := by
        rw [← eqs, List.getElem?_map, e] at ha
        exact Option.some.inj ha
      subst ea
      exact step n q _ R e s2 kR
  · intro H2 ps s2 hDp pr
    refine ⟨D, ps, is.map (fun i => (key2 i, val2 i)), rfl, SqL.of hDp, PrG.prT pr, fun q hq => ?_⟩
    have hq0 := s2.free hq
    refine k q _ _ s1 (fun b o e => ?_) hq0 upd_same
    rw [upd_ne (ne_of_none e hq0)]
    exact s2 _ _ e
end
end KT
set_option Elab.async false
set_option linter.all false
set_option maxRecDepth 100000
set_option maxHeartbeats 4000000
namespace KT
open PySem L2 PyProof.Rows DTp
/-- a statement whose end is told by the reader -/
def tCut (t : TS) : TS := fun D σ H => ∃ Pn : L2.St → Hp → Prop, t { D with nx := Pn } σ H ∧ ∀ σ' H', Pn σ' H' → D.nx σ' H'
theorem ps_cut {X : Cx} {st : Stmt} {t : TS} (h : PS X st t) : PS X st (tCut t) := by
  refine ⟨fun pins s σ H D I hw => ?_⟩
  obtain ⟨Pn, hw, kn⟩ := hw
  refine thn (h.run pins s σ _ _ I hw) fun f s1 q => ?_
  cases f with
  | next => obtain ⟨σ', H', I2, q⟩ := q; exact ⟨σ', _, I2, kn _ _ q⟩
  | brk => exact q
  | cont => exact q
  | ret v => exact q
/-- a test whose end is told by the reader -/
def tCutT (t : TT) : TT := fun σ H Q => ∃ Pn : Bool → Hp → Prop, t σ H Pn ∧ ∀ b H', Pn b H' → Q b H'
theorem pt_cut {X : Cx} {e : Expr} {t : TT} (h : PT X e t) : PT X e (tCutT t) := ⟨fun pins s σ H Q I hw => by
  obtain ⟨Pn, hw, kn⟩ := hw
  exact thn (h.run pins s σ H _ I hw) fun c s1 ⟨H1, I1, q⟩ => ⟨H1, I1, kn _ _ q⟩⟩
section
variable {P : Program} {w : World} {K : PySem.W.Frag} {mg : Str → Option Value} {base : Heap}
theorem TabAt.but {H H' : Hp} {a p : Addr} {n : Nat} {t : Nat → Nat → Nat} (b : But p H H') (h : TabAt H a n t) (ne : a ≠ p) : TabAt H' a n t := let ⟨kvs, h1, h2⟩ := h; ⟨kvs, b a _ ne h1, h2⟩
theorem TabAt.ne {H : Hp} {a p : Addr} {n : Nat} {t : Nat → Nat → Nat} {B : Int} (h : TabAt H a n t) (hP : PurseAt H p B) : a ≠ p := fun e => by
  obtain ⟨kvs, h1, _⟩ := h
  obtain ⟨_, _, _, _, q, _⟩ := hP
  rw [e, q] at h1
  cases h1
theorem swap_inj (i j : Ix) (h : keyI (i.2, i.1) = keyI (j.2, j.1)) : i = j := by
  have e := keyI_inj _ _ h
  obtain ⟨a, b⟩ := i
  obtain ⟨c, d⟩ := j
  simp only [Prod.mk.injEq] at e
  exact Prod.ext e.2 e.1
def spTable : Sp := fun vs H Q _ => ∃ (p : Addr) (B : Int) (mo : Nat), vs = [.ref p, .int mo] ∧ 0 < mo ∧ mo ≤ 4 ∧ PurseAt H p B ∧ 0 ≤ B ∧ B ≤ 900000 ∧
  ∀ (q : Addr) (ws : List Str) (f : Str → Str → Str) (H' : Hp), H q = none → But p H H' → PurseAt H' p (B + 2000) → H' q = some (.dT (tabW ws f)) → KW ws f → Q (.ref q) H'
abbrev nTable : List Str := ["_law_purse_here", "_law_most_here", "_law_many", "_law_way", "_law_told", "_law_late", "_law_words_here", "_law_named", "_law_x", "_law_y", "_law_pair"]
theorem scTable : FnScope nTable ["_law_purse_here", "_law_most_here"] (defScope sTable) := ⟨rfl, rfl, rfl, by decide +kernel, rfl, by decide +kernel, by decide +kernel⟩
structure TabC (P : Program) (w : World) (K : PySem.W.Frag) (mg : Str → Option Value) (base : Heap) : Prop where
  draw : DrawC P w K mg base
  plain : Cee P w K mg base 1 "_law_plain_table" ["_law_way", "_law_many"] spPlain
  wide : Cee P w K mg base 1 "_law_wide_table" ["_law_told", "_law_many", "_law_way"] spWide
  two : Cee P w K mg base 1 "_law_twofold_table" ["_law_one", "_law_other"] spTwo
  twin : Cee P w K mg base 1 "_law_twin_table" ["_law_told", "_law_many", "_law_twin"] spTwin
  lead : Cee P w K mg base 1 "_law_leading_table" ["_law_told", "_law_many"] spLead
  any : Cee P w K mg base 3 "_law_any_table" ["_law_purse_here", "_law_many"] spAnyT
  words : Cee P w K mg base 4 "_law_words" ["_law_purse_here", "_law_many"] spWords
abbrev gXY (K : PySem.W.Frag) (i j : Nat) : TG := gTup K 2 (gCons (gName i) (gCons (gName j) gNil))
theorem ok_table {f : Addr} {fd : FuncData} (F : Fun K "_law_table" "_law_table" sTable f fd) (T : Blt mg) (hdi : mg "dict" = none) (hso : mg "sorted" = none) (C : TabC P w K mg base) : FnOk P w K mg base CX0 5 f fd ["_law_purse_here", "_law_most_here"] spTable := by
  refine F.ok scTable (fun vs H Q E h => ?_) (fun cdv A outer s H vs Q E hr h => ?_)
  · obtain ⟨p, B, mo, rfl, _⟩ := h
    rfl
  · obtain ⟨p, B, mo, rfl, mo0, mo4, hP, B0, B1, k⟩ := h
    have nd := scTable.nd
    have hun := hr.units
    refine ⟨_, pss_cons (ps_set (i := 2) nd rfl (Or.inl rfl) (pe_op op_add pe_int (pe_c C.draw hr rfl (pa_cons (pv 0) (pa_cons (pv 1) pa_nil)))))
      (pss_cons (ps_asg (pe_tup (pa_cons (pe_c C.draw hr rfl (pa_cons (pv 0) (pa_cons pe_int pa_nil))) (pa_cons pe_non (pa_cons (pe_c C.draw hr rfl (pa_cons (pv 0) (pa_cons pe_int pa_nil))) pa_nil))))
        (pg_tup rfl (pgs_cons (pg_name (i := 3) nd rfl (Or.inl rfl)) (pgs_cons (pg_name (i := 4) nd rfl (Or.inr rfl)) (pgs_cons (pg_name (i := 5) nd rfl (Or.inl rfl)) pgs_nil)))))
      (pss_cons (ps_cut (ps_if (pt_cut <| PW.pt (pw_and (pt_cmpR op_eq (pv 2) pe_int (nomark _)) (pw_and1 (pt_cmpR op_eq (pe_c C.draw hr rfl (pa_cons (pv 0) (pa_cons pe_int pa_nil))) pe_int (nomark _)))))
          (pss_one (ps_set (i := 4) nd rfl (Or.inr rfl) (pe_c C.two hr rfl (pa_cons (pe_c C.plain hr rfl (pa_cons (pv 3) (pa_cons pe_int pa_nil))) (pa_cons (pe_c C.plain hr rfl (pa_cons (pe_c C.draw hr rfl (pa_cons (pv 0) (pa_cons pe_int pa_nil))) (pa_cons pe_int pa_nil))) pa_nil)))))
        (pss_one (ps_if (pt_cut <| PW.pt (pw_and (pt_cmpR op_gt (pv 2) pe_int (nomark _)) (pw_and1 (pt_cmpR op_lt (pv 5) pe_int (nomark _)))))
          (pss_one (ps_set (i := 4) nd rfl (Or.inr rfl) (pe_c C.wide hr rfl (pa_cons (pe_c C.plain hr rfl (pa_cons (pv 3) (pa_cons (pe_op op_sub (pv 2) pe_int) pa_nil))) (pa_cons (pe_op op_sub (pv 2) pe_int) (pa_cons (pv 5) pa_nil))))))
        (pss_one (ps_if (pt_cut <| PW.pt (pw_and (pt_cmpR op_gt (pv 2) pe_int (nomark _)) (pw_and1 (pt_cmpR op_eq (pv 5) pe_int (nomark _)))))
          (pss_one (ps_set (i := 4) nd rfl (Or.inr rfl) (pe_c C.twin hr rfl (pa_cons (pe_c C.plain hr rfl (pa_cons (pv 3) (pa_cons (pe_op op_sub (pv 2) pe_int) pa_nil))) (pa_cons (pe_op op_sub (pv 2) pe_int) (pa_cons (pe_c C.draw hr rfl (pa_cons (pv 0) (pa_cons (pe_op op_sub (pv 2) pe_int) pa_nil))) pa_nil))))))
        (pss_one (ps_if (pt_cut <| PW.pt (pw_and (pt_cmpR op_gt (pv 2) pe_int (nomark _)) (pw_and1 (pt_cmpR op_eq (pv 5) pe_int (nomark _)))))
          (pss_one (ps_set (i := 4) nd rfl (Or.inr rfl) (pe_c C.lead hr rfl (pa_cons (pe_c C.plain hr rfl (pa_cons (pe_op op_add pe_int (pe_c C.draw hr rfl (pa_cons (pv 0) (pa_cons pe_int pa_nil)))) (pa_cons (pe_op op_sub (pv 2) pe_int) pa_nil))) (pa_cons (pe_op op_sub (pv 2) pe_int) pa_nil)))))
        (pss_one (ps_if (pt_cmpR op_lt (pv 5) pe_int (nomark _))
          (pss_one (ps_set (i := 4) nd rfl (Or.inr rfl) (pe_c C.any hr rfl (pa_cons (pv 0) (pa_cons (pv 2) pa_nil)))))
          (pss_one (ps_set (i := 4) nd rfl (Or.inr rfl) (pe_c C.plain hr rfl (pa_cons (pv 3) (pa_cons (pv 2) pa_nil)))))))))))))))
      (pss_cons (ps_cut (ps_if (pt_cmpR op_eq (pe_c C.draw hr rfl (pa_cons (pv 0) (pa_cons pe_int pa_nil))) pe_int (nomark _))
        (pss_one (ps_set (i := 4) nd rfl (Or.inr rfl) (pe_callTy (cr_dictT rfl (u2 hr.units)) (by rfl) hdi (by decide +kernel) (pa_cons (pe_lock (pe_lc (own := [("_law_x", 8), ("_law_y", 9)]) (g := gXY K 8 9) (tt := tYes)
            (te := tTup (tCons (tTup (tCons (tVar 9) (tCons (tVar 8) tNil))) (tCons (tDGet (tVar 4) (tTup (tCons (tVar 8) (tCons (tVar 9) tNil)))) tNil))) rfl nd (pi_keys (pv 4))
            (blkOk_by (own := [("_law_x", 8), ("_law_y", 9)]) (N := nTable) (sc := defScope sTable) (by decide +kernel)) (fun _ _ _ _ _ => pg_tup rfl (pgs_cons (pg_name (i := 8) nd rfl (Or.inl rfl)) (pgs_cons (pg_name (i := 9) nd rfl (Or.inl rfl)) pgs_nil))) (fun _ _ _ _ _ => pts_nil)
            (fun _ _ _ _ _ => pe_tup (pa_cons (pe_tup (pa_cons (pv 9) (pa_cons (pv 8) pa_nil))) (pa_cons (pe_dget (hu_of hr) (pv 4) (pe_tup (pa_cons (pv 8) (pa_cons (pv 9) pa_nil))) (fun _ _ => rfl)) pa_nil))))) pa_nil)))) pss_nil))
      (pss_cons (ps_set (i := 6) nd rfl (Or.inr rfl) (pe_c C.words hr rfl (pa_cons (pv 0) (pa_cons (pv 2) pa_nil))))
      (pss_cons (ps_set (i := 7) nd rfl (Or.inr rfl) (pe_callTy (cr_dictT rfl (u2 hr.units)) (by rfl) hdi (by decide +kernel) (pa_cons (pe_lock (pe_lc (own := [("_law_x", 8), ("_law_y", 9)]) (g := gXY K 8 9) (tt := tYes)
            (te := tTup (tCons (tTup (tCons (tOp (rIxL K) (tVar 6) (tVar 8)) (tCons (tOp (rIxL K) (tVar 6) (tVar 9)) tNil))) (tCons (tOp (rIxL K) (tVar 6) (tDGet (tVar 4) (tTup (tCons (tVar 8) (tCons (tVar 9) tNil))))) tNil))) rfl nd (pi_keys (pv 4))
            (blkOk_by (own := [("_law_x", 8), ("_law_y", 9)]) (N := nTable) (sc := defScope sTable) (by decide +kernel)) (fun _ _ _ _ _ => pg_tup rfl (pgs_cons (pg_name (i := 8) nd rfl (Or.inl rfl)) (pgs_cons (pg_name (i := 9) nd rfl (Or.inl rfl)) pgs_nil))) (fun _ _ _ _ _ => pts_nil)
            (fun _ _ _ _ _ => pe_tup (pa_cons (pe_tup (pa_cons (pe_ix ix_list (pv 6) (pv 8) (fun _ _ => rfl)) (pa_cons (pe_ix ix_list (pv 6) (pv 9) (fun _ _ => rfl)) pa_nil))) (pa_cons (pe_ix ix_list (pv 6) (pe_dget (hu_of hr) (pv 4) (pe_tup (pa_cons (pv 8) (pa_cons (pv 9) pa_nil))) (fun _ _ => rfl)) (fun _ _ => rfl)) pa_nil))))) pa_nil)))
      (pss_one (ps_ret (pe_callTy (cr_dictT rfl (u2 hr.units)) (by rfl) hdi (by decide +kernel) (pa_cons (pe_lc (own := [("_law_pair", 10)]) (g := gName 10) (tt := tYes)
            (te := tTup (tCons (tVar 10) (tCons (tDGet (tVar 7) (tVar 10)) tNil))) rfl nd (pi_list (pe_callB (cr_sortT rfl hr.units) (by rfl) hso (by decide +kernel) (pa_cons (pv 7) pa_nil)))
            (blkOk_by (own := [("_law_pair", 10)]) (N := nTable) (sc := defScope sTable) (by decide +kernel)) (fun _ _ _ _ _ => pg_name (i := 10) nd rfl (Or.inl rfl)) (fun _ _ _ _ _ => pts_nil)
            (fun _ _ _ _ _ => pe_tup (pa_cons (pv 10) (pa_cons (pe_dget (hu_of hr) (pv 7) (pv 10) (fun _ _ => rfl)) pa_nil)))) pa_nil))))))))), ?_⟩
    refine ⟨_, rfl, _, rfl, p, (mo : Nat), B, rfl, hP, B0, by omega, by omega, Int.lt_of_le_of_lt (show _ ≤ (4 : Int) by omega) (by decide), fun r1 H1 bt1 hP1 r10 r11 => ?_⟩
    obtain ⟨m, rfl⟩ := nat_of (m := 0) r10
    obtain ⟨n, en⟩ : ∃ n : Nat, n = m + 1 := ⟨_, rfl⟩
    have n0 : 0 < n := by omega
    have n5 : n < 5 := by omega
    refine ⟨_, _, rfl, rfl, ?_⟩
    refine at_name (σ' := [some (.ref p), some (.int (mo : Nat)), some (.int (n : Int)), none, none, none, none, none, none, none, none]) (by rw [← show (1 : Int) + (m : Int) = (n : Int) by omega]; rfl) ?_
    refine ⟨_, rfl, p, 8, _, rfl, hP1, by omega, by omega, by decide, by decide, fun r2 H2 bt2 hP2 r20 r21 => ?_⟩
    refine ⟨_, rfl, p, 9, _, rfl, hP2, by omega, by omega, by decide, by decide, fun r3 H3 bt3 hP3 r30 r31 => ?_⟩
    obtain ⟨way, rfl⟩ := nat_of (m := 0) r20
    obtain ⟨late, rfl⟩ := nat_of (m := 0) r30
    have hway : way < 8 := by omega
    refine ⟨(by show 3 ≤ sizeLine; decide), fun tt htt => ?_⟩
    have btt := bt1.trans (bt2.trans bt3)
    have a1 := Same.new (H := H3) (o := .tup [V.int (way : Int), .non, V.int (late : Int)]) htt
    have a2 : upd H3 tt (.tup [V.int (way : Int), .non, V.int (late : Int)]) tt = _ := upd_same
    generalize upd H3 tt (.tup [V.int (way : Int), .non, V.int (late : Int)]) = G at a1 a2 ⊢
    have btG : But p H G := btt.same a1
    have hPG : PurseAt G p (B + 12) := (hP3.mono a1).le (by omega)
    refine ⟨tt, _, rfl, SqT.of a2, rfl, _, _, rfl, ?_⟩
    refine at_name (σ' := [some (.ref p), some (.int (mo : Nat)), some (.int (n : Int)), some (.int (way : Int)), none, none, none, none, none, none, none]) rfl ?_
    refine ⟨_, _, rfl, ?_⟩
    refine at_name (σ' := [some (.ref p), some (.int (mo : Nat)), some (.int (n : Int)), some (.int (way : Int)), some .non, none, none, none, none, none, none]) rfl ?_
    refine ⟨_, _, rfl, ?_⟩
    refine at_name (σ' := [some (.ref p), some (.int (mo : Nat)), some (.int (n : Int)), some (.int (way : Int)), some .non, some (.int (late : Int)), none, none, none, none, none]) rfl ?_
    refine ⟨rfl, ?_⟩
    clear a2 htt a1 hP1 hP2 hP3 bt1 bt2 bt3 btt
    refine ⟨fun σ H' => ∃ (d : Addr) (t : Nat → Nat → Nat), σ = [some (.ref p), some (.int (mo : Nat)), some (.int (n : Int)), some (.int (way : Int)), some (.ref d), some (.int (late : Int)), none, none, none, none, none] ∧ But p H H' ∧ PurseAt H' p (B + 150) ∧ TabAt H' d n t ∧ Free n t, ?_, ?_⟩
    · refine ⟨fun b H' => But p H H' ∧ PurseAt H' p (B + 16) ∧ (b = true → n = 4), ?_, ?_⟩
      · refine ⟨_, rfl, rfl, _, rfl, ?_⟩
        refine ite2 (fun h4 => ?_) (fun h4 => ?_)
        · have e4 : n = 4 := by
            have := of_decide_eq_true h4
            injection this with e
            omega
          refine ⟨_, rfl, p, 3, _, rfl, hPG, by omega, by omega, by decide, by decide, fun r H4 bt4 hP4 r0 r1 => ?_⟩
          exact ⟨rfl, _, rfl, btG.trans bt4, hP4.le (by omega), fun _ => e4⟩
        · exact ⟨btG, hPG.le (by omega), fun e => (by cases e)⟩
      · rintro b H4 ⟨bt4, hP4, h4⟩
        refine ite2 (fun hb => ?_) (fun hb => ?_)
        · have e4 := h4 hb
          refine ⟨_, rfl, way, 2, rfl, hway, by decide, by decide, fun a H5 s5 ha5 ta => ?_⟩
          refine ⟨_, rfl, p, 8, _, rfl, hP4.mono s5, by omega, by omega, by decide, by decide, fun r H6 bt6 hP6 r0 r1 => ?_⟩
          obtain ⟨v, rfl⟩ := nat_of (m := 0) r0
          refine ⟨v, 2, rfl, by omega, by decide, by decide, fun b2 H7 s7 hb7 tb => ?_⟩
          have nap : a ≠ p := fun e => by
            obtain ⟨_, _, _, _, q, _⟩ := hP4
            rw [e, q] at ha5
            cases ha5
          refine ⟨a, b2, _, _, rfl, (ta.but bt6 nap).mono s7, tb, fun q H8 s8 hq tq => ?_⟩
          refine at_name (σ' := [some (.ref p), some (.int (mo : Nat)), some (.int (n : Int)), some (.int (way : Int)), some (.ref q), some (.int (late : Int)), none, none, none, none, none]) rfl ?_
          refine ⟨q, twofoldT (plainT way 2) (plainT v 2), rfl, (((bt4.same s5).trans bt6).same s7).same s8, ((hP6.mono s7).mono s8).le (by omega), ?_, ?_⟩
          · rw [e4]; exact tq
          · rw [e4]; exact free_of (twofold_free way hway v (by omega))
        · refine ⟨fun b H' => H' = H4 ∧ (b = true → 1 < n ∧ late < 2), ?_, ?_⟩
          · refine ⟨_, rfl, _, _, rfl, rfl, _, rfl, ?_⟩
            refine ite2 (fun h1 => ?_) (fun h1 => ?_)
            · have h1 := of_decide_eq_true h1
              refine ⟨_, rfl, _, _, rfl, rfl, _, rfl, rfl, fun h2 => ?_⟩
              have h2 := of_decide_eq_true h2
              exact ⟨by omega, by omega⟩
            · exact ⟨rfl, fun e => (by cases e)⟩
          · rintro b H5 ⟨rfl, hc⟩
            refine ite2 (fun hb => ?_) (fun hb => ?_)
            · obtain ⟨c1, c2⟩ := hc hb
              have en1 : (n : Int) - 1 = ((n - 1 : Nat) : Int) := by omega
              have en2 : n - 1 + 1 = n := by omega
              refine ⟨_, rfl, _, rfl, _, _, rfl, rfl, ?_⟩
              refine ⟨way, n - 1, by rw [← en1]; rfl, hway, by omega, by omega, fun a H6 s6 ha6 ta => ?_⟩
              refine ⟨_, rfl, _, _, rfl, rfl, _, rfl, ?_⟩
              refine ⟨a, n - 1, late, _, by rw [← en1]; rfl, by omega, by omega, ta, fun q H7 s7 hq tq => ?_⟩
              refine at_name (σ' := [some (.ref p), some (.int (mo : Nat)), some (.int (n : Int)), some (.int (way : Int)), some (.ref q), some (.int (late : Int)), none, none, none, none, none]) rfl ?_
              rw [en2] at tq
              have fr := free_of (wide_free way hway (n - 1) (by omega) (by omega) late c2)
              rw [en2] at fr
              exact ⟨q, _, rfl, (bt4.same s6).same s7, ((hP4.mono s6).mono s7).le (by omega), tq, fr⟩
            · refine ⟨fun b H' => H' = H5 ∧ (b = true → 1 < n), ?_, ?_⟩
              · refine ⟨_, rfl, _, _, rfl, rfl, _, rfl, ?_⟩
                refine ite2 (fun h1 => ?_) (fun h1 => ?_)
                · have h1 := of_decide_eq_true h1
                  exact ⟨_, rfl, rfl, _, rfl, rfl, fun _ => by omega⟩
                · exact ⟨rfl, fun e => (by cases e)⟩
              · rintro b H6 ⟨rfl, hc⟩
                refine ite2 (fun hb => ?_) (fun hb => ?_)
                · have c1 := hc hb
                  have en1 : (n : Int) - 1 = ((n - 1 : Nat) : Int) := by omega
                  have en2 : n - 1 + 1 = n := by omega
                  refine ⟨_, rfl, _, rfl, _, _, rfl, rfl, ?_⟩
                  refine ⟨way, n - 1, by rw [← en1]; rfl, hway, by omega, by omega, fun a H7 s7 ha7 ta => ?_⟩
                  refine ⟨_, rfl, _, _, rfl, rfl, _, rfl, _, rfl, _, _, rfl, rfl, ?_⟩
                  refine ⟨p, _, _, rfl, hP4.mono s7, by omega, by omega, by omega, by omega, fun r H8 bt8 hP8 r0 r1 => ?_⟩
                  obtain ⟨v, rfl⟩ := nat_of (m := 0) r0
                  have nap : a ≠ p := fun e => by
                    obtain ⟨_, _, _, _, q, _⟩ := hP4
                    rw [e, q] at ha7
                    cases ha7
                  refine ⟨a, n - 1, v, _, by rw [← en1]; rfl, by omega, by omega, by omega, ta.but bt8 nap, fun q H9 s9 hq tq => ?_⟩
                  refine at_name (σ' := [some (.ref p), some (.int (mo : Nat)), some (.int (n : Int)), some (.int (way : Int)), some (.ref q), some (.int (late : Int)), none, none, none, none, none]) rfl ?_
                  rw [en2] at tq
                  have fr := free_of (twin_free way hway (n - 1) (by omega) (by omega) v (by omega))
                  rw [en2] at fr
                  exact ⟨q, _, rfl, ((bt4.same s7).trans bt8).same s9, (hP8.mono s9).le (by omega), tq, fr⟩
                · refine ⟨fun b H' => H' = H6 ∧ (b = true → 1 < n), ?_, ?_⟩
                  · refine ⟨_, rfl, _, _, rfl, rfl, _, rfl, ?_⟩
                    refine ite2 (fun h1 => ?_) (fun h1 => ?_)
                    · have h1 := of_decide_eq_true h1
                      exact ⟨_, rfl, rfl, _, rfl, rfl, fun _ => by omega⟩
                    · exact ⟨rfl, fun e => (by cases e)⟩
                  · rintro b H7 ⟨rfl, hc⟩
                    refine ite2 (fun hb => ?_) (fun hb => ?_)
                    · have c1 := hc hb
                      have en1 : (n : Int) - 1 = ((n - 1 : Nat) : Int) := by omega
                      have en2 : n - 1 + 1 = n := by omega
                      refine ⟨_, rfl, p, 2, _, rfl, hP4, by omega, by omega, by decide, by decide, fun r H8 bt8 hP8 r0 r1 => ?_⟩
                      obtain ⟨v, rfl⟩ := nat_of (m := 0) r0
                      refine ⟨_, _, rfl, rfl, _, rfl, _, _, rfl, rfl, ?_⟩
                      refine ⟨1 + v, n - 1, by rw [← en1]; rfl, by omega, by omega, by omega, fun a H9 s9 ha9 ta => ?_⟩
                      refine ⟨_, rfl, _, _, rfl, rfl, ?_⟩
                      refine ⟨a, n - 1, _, by rw [← en1]; rfl, by omega, by omega, ta, fun q H10 s10 hq tq => ?_⟩
                      refine at_name (σ' := [some (.ref p), some (.int (mo : Nat)), some (.int (n : Int)), some (.int (way : Int)), some (.ref q), some (.int (late : Int)), none, none, none, none, none]) rfl ?_
                      rw [en2] at tq
                      have fr := free_of (lead_free (1 + v) (by omega) (by omega) (n - 1) (by omega) (by omega))
                      rw [en2] at fr
                      exact ⟨q, _, rfl, ((bt4.trans bt8).same s9).same s10, ((hP8.mono s9).mono s10).le (by omega), tq, fr⟩
                    · refine ⟨_, rfl, _, _, rfl, rfl, _, rfl, ?_⟩
                      refine ite2 (fun _ => ?_) (fun _ => ?_)
                      · refine ⟨_, rfl, _, rfl, p, n, _, rfl, hP4, by omega, by omega, n0, n5, fun q t H8 hq bt8 hP8 tq fr => ?_⟩
                        refine at_name (σ' := [some (.ref p), some (.int (mo : Nat)), some (.int (n : Int)), some (.int (way : Int)), some (.ref q), some (.int (late : Int)), none, none, none, none, none]) rfl ?_
                        exact ⟨q, _, rfl, bt4.trans bt8, hP8.le (by omega), tq, fr⟩
                      · refine ⟨_, rfl, _, rfl, way, n, rfl, hway, n0, n5, fun q H8 s8 hq tq => ?_⟩
                        refine at_name (σ' := [some (.ref p), some (.int (mo : Nat)), some (.int (n : Int)), some (.int (way : Int)), some (.ref q), some (.int (late : Int)), none, none, none, none, none]) rfl ?_
                        exact ⟨q, _, rfl, bt4.same s8, (hP4.mono s8).le (by omega), tq, free_of (plain_free way hway n n5 n0)⟩
    · rintro σ H4 ⟨d, t, rfl, bt4, hP4, td, fr⟩
      have hun2 := u2 hr.units
      refine ⟨fun σ H' => ∃ (d : Addr) (t : Nat → Nat → Nat), σ = [some (.ref p), some (.int (mo : Nat)), some (.int (n : Int)), some (.int (way : Int)), some (.ref d), some (.int (late : Int)), none, none, none, none, none] ∧ But p H H' ∧ PurseAt H' p (B + 160) ∧ TabAt H' d n t ∧ Free n t, ?_, ?_⟩
      · refine ⟨_, rfl, p, 3, _, rfl, hP4, by omega, by omega, by decide, by decide, fun r H5 bt5 hP5 _ _ => ?_⟩
        have ndp := td.ne hP4
        have td5 := td.but bt5 ndp
        refine ⟨rfl, _, rfl, ?_⟩
        refine ite2 (fun _ => ?_) (fun _ => ?_)
        · obtain ⟨kvs, hd, tb⟩ := td5
          obtain ⟨is, e1, ndi, e2⟩ := tb.idxs keyI_inj
          have lis : is.length ≤ 1000 := by
            have := sq_len (n := 4) (t := t) tb fun i hi => ⟨by have := hi.1; omega, by have := hi.2; omega⟩
            rw [e1, List.length_map] at this
            omega
          refine rd_keys (key := keyI) (key2 := fun i : Ix => keyI (i.2, i.1)) (val := valI t) (val2 := valI t) rfl hd e1 lis ?_ ?_
          · rintro ⟨x, y⟩ q od H6 R ha s6 hq kR
            obtain ⟨hx, hy⟩ : x < n ∧ y < n := (e2 (x, y)).mpr ha
            have hq' : H6 q = some (.tup [V.int (x : Int), V.int (y : Int)]) := hq
            have tr : TabRd H6 d n t := ⟨kvs, .inr ⟨od, s6 _ _ upd_same⟩, tb⟩
            refine ⟨q, _, rfl, SqT.of hq', rfl, _, _, rfl, ?_⟩
            refine at_name (σ' := [some (.ref p), some (.int (mo : Nat)), some (.int (n : Int)), some (.int (way : Int)), some (.ref d), some (.int (late : Int)), none, none, some (.int (x : Int)), none, none]) rfl ?_
            refine ⟨_, _, rfl, ?_⟩
            refine at_name (σ' := [some (.ref p), some (.int (mo : Nat)), some (.int (n : Int)), some (.int (way : Int)), some (.ref d), some (.int (late : Int)), none, none, some (.int (x : Int)), some (.int (y : Int)), none]) rfl ?_
            refine ⟨rfl, rfl, ?_⟩
            refine ⟨_, rfl, _, rfl, (by show 2 ≤ sizeLine; decide), fun b hb => ?_⟩
            have b1 := Same.new (H := H6) (o := .tup [V.int (y : Int), V.int (x : Int)]) hb
            have b2 : upd H6 b (.tup [V.int (y : Int), V.int (x : Int)]) b = _ := upd_same
            generalize upd H6 b (.tup [V.int (y : Int), V.int (x : Int)]) = G1 at b1 b2 ⊢
            refine ⟨_, rfl, _, rfl, _, rfl, (by show 2 ≤ sizeLine; decide), fun t1 ht1 => ?_⟩
            have c1 := Same.new (H := G1) (o := .tup [V.int (x : Int), V.int (y : Int)]) ht1
            have c2 : upd G1 t1 (.tup [V.int (x : Int), V.int (y : Int)]) t1 = _ := upd_same
            generalize upd G1 t1 (.tup [V.int (x : Int), V.int (y : Int)]) = G2 at c1 c2 ⊢
            refine ⟨d, _, rfl, ((tr.mono b1).mono c1).get hx hy c2, (by show 2 ≤ sizeLine; decide), fun t2 ht2 => ?_⟩
            have d1 := Same.new (H := G2) (o := .tup [V.ref b, V.int (t x y : Nat)]) ht2
            exact kR t2 b _ (fun z o e => d1 _ _ (c1 _ _ (b1 _ _ e))) upd_same (d1 _ _ (c1 _ _ b2))
          · intro q H6 s6 hq0 hq
            refine at_name (σ' := [some (.ref p), some (.int (mo : Nat)), some (.int (n : Int)), some (.int (way : Int)), some (.ref q), some (.int (late : Int)), none, none, none, none, none]) rfl ?_
            refine ⟨q, fun x y => t y x, rfl, (bt4.trans bt5).same s6, (hP5.mono s6).le (by omega), ⟨_, hq, ?_⟩, fr.turn⟩
            have tm := (TbG.merge (val := valI t) swap_inj is TbG.nil).congr (S' := Sq n) fun a => by rw [false_or]; exact (e2 a).symm
            exact tm.reidx (fun i => (i.2, i.1)) (fun i => (i.2, i.1)) (fun i hi => ⟨⟨hi.2, hi.1⟩, rfl, rfl⟩) (fun i hi => ⟨⟨hi.2, hi.1⟩, rfl⟩)
        · exact ⟨d, t, rfl, bt4.trans bt5, hP5.le (by omega), td5, fr⟩
      · rintro σ H5 ⟨d, t, rfl, bt5, hP5, td, fr⟩
        refine ⟨_, rfl, _, rfl, p, n, _, rfl, hP5, by omega, by omega, by omega, by omega, fun L W H6 hL0 bt6 hP6 hL lw wd ndw => ?_⟩
        have ndp := td.ne hP5
        have td6 := td.but bt6 ndp
        have bt56 := bt5.trans bt6
        have lw' : W.length = n := by omega
        have kw := kw_of fr lw' n0 n5 ndw wd
        refine at_name (σ' := [some (.ref p), some (.int (mo : Nat)), some (.int (n : Int)), some (.int (way : Int)), some (.ref d), some (.int (late : Int)), some (.ref L), none, none, none, none]) rfl ?_
        obtain ⟨kvs, hd, tb⟩ := td6
        obtain ⟨is, e1, ndi, e2⟩ := tb.idxs keyI_inj
        have lis : is.length ≤ 16 := by
          have := sq_len (n := 4) (t := t) tb fun i hi => ⟨by have := hi.1; omega, by have := hi.2; omega⟩
          rw [e1, List.length_map] at this
          omega
        have wj : ∀ j, j < n → (W.map V.str)[j]? = some (.str (W.getD j ⟨#[]⟩)) := fun j hj => by
          rw [List.getElem?_map, List.getD_eq_getElem?_getD, List.getElem?_eq_getElem (by omega)]
          rfl
        refine rd_keys (key := keyI) (key2 := fun i : Ix => keyP (W.getD i.1 ⟨#[]⟩, W.getD i.2 ⟨#[]⟩)) (val := valI t) (val2 := fun i : Ix => valW (prodW W t) (W.getD i.1 ⟨#[]⟩, W.getD i.2 ⟨#[]⟩)) rfl hd e1 (by omega) ?_ ?_
        · rintro ⟨x, y⟩ q od H7 R ha s7 hq kR
          obtain ⟨hx, hy⟩ : x < n ∧ y < n := (e2 (x, y)).mpr ha
          have hq' : H7 q = some (.tup [V.int (x : Int), V.int (y : Int)]) := hq
          have tr : TabRd H7 d n t := ⟨kvs, .inr ⟨od, s7 _ _ upd_same⟩, tb⟩
          have nLd : L ≠ d := fun e => by rw [e, hd] at hL; cases hL
          have hL7 : H7 L = some (.lst (W.map V.str)) := s7 _ _ ((upd_ne nLd).trans hL)
          have ev : prodW W t (W.getD x ⟨#[]⟩) (W.getD y ⟨#[]⟩) = W.getD (t x y) ⟨#[]⟩ := by
            unfold prodW
            rw [idxOf_getD ndw (by omega), idxOf_getD ndw (by omega)]
          refine ⟨q, _, rfl, SqT.of hq', rfl, _, _, rfl, ?_⟩
          refine at_name (σ' := [some (.ref p), some (.int (mo : Nat)), some (.int (n : Int)), some (.int (way : Int)), some (.ref d), some (.int (late : Int)), some (.ref L), none, some (.int (x : Int)), none, none]) rfl ?_
          refine ⟨_, _, rfl, ?_⟩
          refine at_name (σ' := [some (.ref p), some (.int (mo : Nat)), some (.int (n : Int)), some (.int (way : Int)), some (.ref d), some (.int (late : Int)), some (.ref L), none, some (.int (x : Int)), some (.int (y : Int)), none]) rfl ?_
          refine ⟨rfl, rfl, ?_⟩
          refine ⟨_, rfl, _, rfl, L, _, (x : Int), _, rfl, rfl, SqL.of hL7, atI_nat (wj x hx), _, rfl, _, rfl, L, _, (y : Int), _, rfl, rfl, SqL.of hL7, atI_nat (wj y hy), (by show 2 ≤ sizeLine; decide), fun b hb => ?_⟩
          have b1 := Same.new (H := H7) (o := .tup [V.str (W.getD x ⟨#[]⟩), V.str (W.getD y ⟨#[]⟩)]) hb
          have b2 : upd H7 b (.tup [V.str (W.getD x ⟨#[]⟩), V.str (W.getD y ⟨#[]⟩)]) b = _ := upd_same
          generalize upd H7 b (.tup [V.str (W.getD x ⟨#[]⟩), V.str (W.getD y ⟨#[]⟩)]) = G1 at b1 b2 ⊢
          refine ⟨_, rfl, _, rfl, _, rfl, _, rfl, (by show 2 ≤ sizeLine; decide), fun t1 ht1 => ?_⟩
          have c1 := Same.new (H := G1) (o := .tup [V.int (x : Int), V.int (y : Int)]) ht1
          have c2 : upd G1 t1 (.tup [V.int (x : Int), V.int (y : Int)]) t1 = _ := upd_same
          generalize upd G1 t1 (.tup [V.int (x : Int), V.int (y : Int)]) = G2 at c1 c2 ⊢
          refine ⟨d, _, rfl, ((tr.mono b1).mono c1).get hx hy c2, L, _, (t x y : Nat), _, rfl, rfl, SqL.of (c1 _ _ (b1 _ _ hL7)), atI_nat (wj _ (fr.lt x y hx hy)), (by show 2 ≤ sizeLine; decide), fun t2 ht2 => ?_⟩
          have d1 := Same.new (H := G2) (o := .tup [V.ref b, V.str (W.getD (t x y) ⟨#[]⟩)]) ht2
          refine kR t2 b _ (fun z o e => d1 _ _ (c1 _ _ (b1 _ _ e))) ?_ (d1 _ _ (c1 _ _ b2))
          show _ = some (HO.tup [V.ref b, V.str (prodW W t (W.getD x ⟨#[]⟩) (W.getD y ⟨#[]⟩))])
          rw [ev]
          exact upd_same
        · intro dn H7 s7 hdn0 hdn
          have em : (is.map fun a : Ix => (keyP (W.getD a.1 ⟨#[]⟩, W.getD a.2 ⟨#[]⟩), valW (prodW W t) (W.getD a.1 ⟨#[]⟩, W.getD a.2 ⟨#[]⟩))) = (is.map fun a : Ix => (W.getD a.1 ⟨#[]⟩, W.getD a.2 ⟨#[]⟩)).map fun p => (keyP p, valW (prodW W t) p) := by rw [List.map_map]; rfl
          rw [em] at hdn
          have tm := (TbG.merge (val := valW (prodW W t)) keyP_inj (is.map fun a : Ix => (W.getD a.1 ⟨#[]⟩, W.getD a.2 ⟨#[]⟩)) TbG.nil).congr (S' := SqW W) fun a => by
            rw [false_or, List.mem_map]
            constructor
            · rintro ⟨i, hi, rfl⟩
              have hs := (e2 i).mpr hi
              exact ⟨getD_mem (by rw [lw']; exact hs.1), getD_mem (by rw [lw']; exact hs.2)⟩
            · rintro ⟨h1, h2⟩
              refine ⟨(W.idxOf a.1, W.idxOf a.2), (e2 _).mp ⟨lw' ▸ List.idxOf_lt_length_of_mem h1, lw' ▸ List.idxOf_lt_length_of_mem h2⟩, ?_⟩
              exact Prod.ext (getD_idxOf h1) (getD_idxOf h2)
          obtain ⟨kv2, ek⟩ : ∃ z, z = mergeT [] ((is.map fun a : Ix => (W.getD a.1 ⟨#[]⟩, W.getD a.2 ⟨#[]⟩)).map fun p => (keyP p, valW (prodW W t) p)) := ⟨_, rfl⟩
          rw [← ek] at hdn tm
          clear ek em
          refine at_name (σ' := [some (.ref p), some (.int (mo : Nat)), some (.int (n : Int)), some (.int (way : Int)), some (.ref d), some (.int (late : Int)), some (.ref L), some (.ref dn), none, none, none]) rfl ?_
          obtain ⟨ps, f1, f2, f3, f4⟩ := sorted_keys tm ndw kw.asc (ascOf_perm W)
          have bt7 : But p H H7 := bt56.same s7
          have hP7 := hP6.mono s7
          have lp : ps.length ≤ 16 := by
            rw [f2]
            have := tm.len (pairsW W) fun p hp => mem_pairsW.mpr hp
            rw [pairsW_len, lw'] at this
            have : n * n ≤ 4 * 4 := Nat.mul_le_mul (by omega) (by omega)
            omega
          have lpw : (pairsW (ascOf W)).length ≤ 1000 := by
            rw [pairsW_len, (ascOf_perm W).length_eq, lw']
            have : n * n ≤ 4 * 4 := Nat.mul_le_mul (by omega) (by omega)
            omega
          show tCB (rDictT K) (tCons (tLc (iList K (tCB DTp.rSortT (tCons (tVar 7) tNil))) (gName 10) tYes (tTup (tCons (tVar 10) (tCons (tDGet (tVar 7) (tVar 10)) tNil))) [10]) tNil) _ H7 Q
          refine rd_list (key2 := keyP) (val2 := valW (prodW W t)) (is := pairsW (ascOf W)) (fun H1 => L2.Same H7 H1) lpw ?_ ?_
          · intro R hR
            refine ⟨_, rfl, dn, kv2, ps, rfl, .inl hdn, f1, by omega, fun qs l h1 h2 h3 hl => ?_⟩
            have s8 := Same.new (H := H7) (o := .lst (qs.map fun q => V.ref q.1)) hl
            refine hR l qs _ (f4 _ h1 h2) upd_same s8 ?_
            intro m q H8 R2 hq s9 kR
            have hqm := h3 q (List.mem_of_getElem? hq)
            have hq8 : H8 q.1 = some (.tup ((keyP q.2).map kV)) := s9 _ _ (s8 _ _ hqm)
            have hq2 : SqW W q.2 := by
              have : q.2 ∈ qs.map (·.2) := List.mem_map.mpr ⟨q, List.mem_of_getElem? hq, rfl⟩
              rw [f4 _ h1 h2, mem_pairsW] at this
              exact ⟨(ascOf_perm W).mem_iff.mp this.1, (ascOf_perm W).mem_iff.mp this.2⟩
            have gt : DGet H8 dn (.ref q.1) (some (valW (prodW W t) q.2)) := by
              have e := DGet.t (k := keyP q.2) (s9 _ _ (s8 _ _ hdn)) hq8
              rw [tm.get hq2] at e
              exact e
            refine at_name (σ' := [some (.ref p), some (.int (mo : Nat)), some (.int (n : Int)), some (.int (way : Int)), some (.ref d), some (.int (late : Int)), some (.ref L), some (.ref dn), none, none, some (.ref q.1)]) rfl ?_
            refine ⟨rfl, _, rfl, _, rfl, _, rfl, dn, _, rfl, gt, (by show 2 ≤ sizeLine; decide), fun t2 ht2 => ?_⟩
            exact kR t2 q.1 _ (Same.new ht2) upd_same (Same.new ht2 _ _ hq8)
          · intro q H8 H9 s8 s9 hq0 hq
            have en : mergeT [] ((pairsW (ascOf W)).map fun a => (keyP a, valW (prodW W t) a)) = tabW (ascOf W) (prodW W t) := by
              rw [mergeT_nd _ _ (by rw [List.nil_append]; exact (tabW_tb (f := prodW W t) kw.asc.nodup).nd)]
              rfl
            rw [en] at hq
            have btE : But p H H8 := bt7.same s8
            exact k q (ascOf W) (prodW W t) H9 (btE.free (hP7.mono s8) hq0) (btE.same s9) (((hP7.mono s8).mono s9).le (by omega)) hq kw
end
end KT
set_option Elab.async false
set_option linter.all false
set_option maxRecDepth 100000
set_option maxHeartbeats 4000000
namespace KT
open PySem L2 PyProof.Rows DTp
section
variable {K : PySem.W.Frag}
theorem mergeT_snoc : ∀ (xs kvs : List (List Key × V)) (p : List Key × V), mergeT kvs (xs ++ [p]) = putK (mergeT kvs xs) p.1 p.2
  | [], _, _ => rfl
  | x :: xs, kvs, p => mergeT_snoc xs _ p
/-- {key: value for .. in told}, the keys tuples -/
theorem dc_keys {ι : Type} {key key2 : ι → List Key} {val val2 : ι → V} {te0 tk tv : TE} {tg iter : Expr} {ifs : List Expr} {g : TG} {vs : List Nat} {σ : L2.St} {H : Hp} {Q : VK} {d : Addr} {kvs : List (List Key × V)} {is : List ι}
    (hi : ∀ od (R : VK), R (.ref d) (upd H d (.frz od (.dT kvs))) → te0 σ (upd H d (.frz od (.dT kvs))) R) (hd : H d = some (.dT kvs))
    (e1 : kvs = is.map fun a => (key a, val a)) (few : is.length ≤ 1000)
    (step : ∀ a q od H1 (R : V → V → Hp → Prop) (Cn : L2.St → Hp → Prop), (∀ σ2 H2, (tk σ2 H2 fun y H3 => tv σ2 H3 fun z H4 => R y z H4) → Cn σ2 H2) → a ∈ is → L2.Same (upd H d (.frz od (.dT kvs))) H1 → H1 q = some (.tup ((key a).map kV)) → (∀ b H3, L2.Same H1 H3 → H3 b = some (.tup ((key2 a).map kV)) → R (.ref b) (val2 a) H3) → g (.ref q) (wipe σ vs) H1 fun σ2 H2 => wipe σ2 vs = wipe σ vs ∧ Cn σ2 H2)
    (k : ∀ q H', L2.Same H H' → H q = none → H' q = some (.dT (mergeT [] (is.map fun a => (key2 a, val2 a)))) → Q (.ref q) H') :
    tLockE (GC.tCo (fun _ => .dT []) ⟨tg, iter, ifs, iKeys te0, g, tYes, vs⟩ [] (GC.emT tk tv)) σ H Q := by
  have li : is.length = kvs.length := by rw [e1, List.length_map]
  refine ⟨d, .dT kvs, hd, trivial, fun od => ?_⟩
  refine hi od _ ⟨d, od, rfl, .inr ⟨kvs, upd_same, fun D hD => ?_⟩⟩
  have nDd : D ≠ d := fun e => by rw [e, upd_same] at hD; cases hD
  have hD0 : H D = none := by rw [upd_ne nDd] at hD; exact hD
  refine GC.lp_it walk_keysT (fun n H' => L2.Same (upd H d (.frz od (.dT kvs))) H' ∧ H' D = some (.dT (mergeT [] ((is.take n).map fun a => (key2 a, val2 a))))) ?_ ?_ ?_ ?_
  · exact ⟨Same.new hD, upd_same⟩
  · rintro i H1 _ ⟨s1, _⟩
    exact s1 _ _ upd_same
  · rintro n x H0 H1 hn ⟨s1, hD1⟩ ⟨rfl, kk, v, q, hk, rfl, hq⟩
    have hn' : n < is.length := by omega
    have ea : is[n]? = some is[n] := List.getElem?_eq_getElem hn'
    have ek : kvs[n]? = some (key is[n], val is[n]) := by
      have e3 := congrArg (fun l : List (List Key × V) => l[n]?) e1
      simp only [List.getElem?_map, ea] at e3
      exact e3
    rw [hk] at ek
    have ek := Option.some.inj ek
    obtain ⟨rfl, rfl⟩ : kk = key is[n] ∧ v = val is[n] := ⟨congrArg Prod.fst ek, congrArg Prod.snd ek⟩
    refine step is[n] q od H1 (fun y z H2 => ∃ (kvs2 : List (List Key × V)) (k : List Key) (b : Addr), y = .ref b ∧ H2 b = some (.tup (k.map kV)) ∧ H2 D = some (.dT kvs2) ∧ kvs2.length < sizeLine ∧ (L2.Same (upd H d (.frz od (.dT kvs))) (upd H2 D (.dT (putK kvs2 k z))) ∧ (upd H2 D (.dT (putK kvs2 k z))) D = some (.dT (mergeT [] ((is.take (n + 1)).map fun a => (key2 a, val2 a)))))) _ (fun σ2 H2 hh => hh) (List.getElem_mem hn') s1 hq fun b H3 s3 hb => ?_
    refine ⟨_, key2 is[n], b, rfl, hb, s3 _ _ hD1, ?_, fun c o e => ?_, ?_⟩
    · have := length_mergeT ((is.take n).map fun a => (key2 a, val2 a)) []
      rw [List.length_map, List.length_take, List.length_nil] at this
      exact small1000 (by omega)
    · rw [upd_ne (ne_of_none e hD)]
      exact s3 _ _ (s1 _ _ e)
    · rw [upd_same, take_next' ea, List.map_append]
      exact congrArg (fun z => some (HO.dT z)) (mergeT_snoc ((is.take n).map fun a => (key2 a, val2 a)) [] (key2 is[n], val2 is[n])).symm
  · rintro H1 ⟨s1, hD1⟩
    rw [← li, List.take_length] at hD1
    have hdl : H1 d = some (.frz od (.dT kvs)) := s1 _ _ upd_same
    refine ⟨hdl, k D _ (fun b o e => ?_) hD0 ?_⟩
    · by_cases hb : b = d
      · rw [hb] at e ⊢
        rw [hd] at e
        rw [upd_same]; exact e
      · rw [upd_ne hb]
        exact s1 _ _ ((upd_ne hb).trans e)
    · rw [upd_ne nDd]; exact hD1
/-- {key: value for .. in list}, the list's things the tuples at qs, the keys tuples -/
theorem dc_list {ι : Type} {key2 : ι → List Key} {val2 : ι → V} {tl tk tv : TE} {tg iter : Expr} {ifs : List Expr} {g : TG} {vs : List Nat} {σ : L2.St} {H : Hp} {Q : VK} {is : List ι} (Pd : Hp → Prop) (few : is.length ≤ 1000)
    (hl : ∀ R : VK, (∀ l (qs : List (Addr × ι)) H1, qs.map (·.2) = is → H1 l = some (.lst (qs.map fun q => V.ref q.1)) → Pd H1 →
      (∀ (n : Nat) q H2 (R2 : V → V → Hp → Prop) (Cn : L2.St → Hp → Prop), (∀ σ2 H3, (tk σ2 H3 fun y H4 => tv σ2 H4 fun z H5 => R2 y z H5) → Cn σ2 H3) → qs[n]? = some q → L2.Same H1 H2 → (∀ b H3, L2.Same H2 H3 → H3 b = some (.tup ((key2 q.2).map kV)) → R2 (.ref b) (val2 q.2) H3) → g (.ref q.1) (wipe σ vs) H2 fun σ2 H3 => wipe σ2 vs = wipe σ vs ∧ Cn σ2 H3) → R (.ref l) H1) → tl σ H R)
    (k : ∀ q H1 H', Pd H1 → L2.Same H1 H' → H1 q = none → H' q = some (.dT (mergeT [] (is.map fun a => (key2 a, val2 a)))) → Q (.ref q) H') :
    GC.tCo (fun _ => .dT []) ⟨tg, iter, ifs, iList K tl, g, tYes, vs⟩ [] (GC.emT tk tv) σ H Q := by
  refine hl _ fun l qs H1 eqs h1 s1 step => ?_
  have lq : qs.length = is.length := by rw [← eqs, List.length_map]
  refine ⟨l, rfl, ⟨_, SqL.of h1⟩, fun D hD => ?_⟩
  refine GC.lp_it (walk_list (K := K) (a := l) (xs := qs.map fun q => V.ref q.1)) (fun n H' => L2.Same H1 H' ∧ H' D = some (.dT (mergeT [] ((is.take n).map fun a => (key2 a, val2 a))))) ?_ ?_ ?_ ?_
  · exact ⟨Same.new hD, upd_same⟩
  · rintro i H2 _ ⟨s2, _⟩
    exact SqL.of (s2 _ _ h1)
  · rintro n x H0 H2 hn ⟨s2, hD2⟩ ⟨rfl, hx⟩
    rw [List.length_map] at hn
    rw [List.getElem?_map] at hx
    cases e : qs[n]? with
    | none => rw [e] at hx; cases hx
    | some q =>
      rw [e] at hx
      obtain rfl : V.ref q.1 = x := Option.some.inj hx
      have ea : is[n]? = some q.2 := by rw [← eqs, List.getElem?_map, e]; rfl
      refine step n q H2 (fun y z H3 => ∃ (kvs2 : List (List Key × V)) (k : List Key) (b : Addr), y = .ref b ∧ H3 b = some (.tup (k.map kV)) ∧ H3 D = some (.dT kvs2) ∧ kvs2.length < sizeLine ∧ (L2.Same H1 (upd H3 D (.dT (putK kvs2 k z))) ∧ (upd H3 D (.dT (putK kvs2 k z))) D = some (.dT (mergeT [] ((is.take (n + 1)).map fun a => (key2 a, val2 a)))))) _ (fun σ2 H3 hh => hh) e s2 fun b H3 s3 hb => ?_
      refine ⟨_, key2 q.2, b, rfl, hb, s3 _ _ hD2, ?_, fun c o e => ?_, ?_⟩
      · have := length_mergeT ((is.take n).map fun a => (key2 a, val2 a)) []
        rw [List.length_map, List.length_take, List.length_nil] at this
        exact small1000 (by omega)
      · rw [upd_ne (ne_of_none e hD)]
        exact s3 _ _ (s2 _ _ e)
      · rw [upd_same, take_next' ea, List.map_append]
        exact congrArg (fun z => some (HO.dT z)) (mergeT_snoc ((is.take n).map fun a => (key2 a, val2 a)) [] (key2 q.2, val2 q.2)).symm
  · rintro H2 ⟨s2, hD2⟩
    rw [List.length_map, lq, List.take_length] at hD2
    exact k D H1 H2 s1 s2 hD hD2
end
end KT
set_option Elab.async false
set_option linter.all false
set_option maxRecDepth 100000
set_option maxHeartbeats 4000000
namespace KT
open PySem L2 PyProof.Rows DTp
/-- built-ins that the program asks -/
structure Blp (mg : Str → Option Value) : Prop where
  isi : mg "isinstance" = none
  all : mg "all" = none
  sorted : mg "sorted" = none
  str : mg "str" = none
  bool : mg "bool" = none
  tuple : mg "tuple" = none
  list : mg "list" = none
  dict : mg "dict" = none
  letters : ∃ t, mg "LETTERS" = some (.str "abcdefghijklmnopqrstuvwxyz" t)
  longest : ∃ t, mg "LONGEST_WORD" = some (.int 8 t)
theorem boot_isi : bootBuiltins "isinstance" = some (.builtin "isinstance") := by decide +kernel
section
variable {J : It} {n : Nat} {G : Hp → Prop} {Y : Nat → Hp → V → Hp → Prop}
/-- a list of tests, all of them true -/
theorem lc_true (W : Walk J n G Y) {g : TG} {te : TE} {vs : List Nat} {σ : L2.St} {H1 : Hp} {D : Addr} {Qd : Hp → Prop} (few : n ≤ 200000) (hD : H1 D = none) (stay : ∀ H', L2.Same H1 H' → G H')
    (step : ∀ i x H H' (R : VK), i < n → L2.Same H1 H → Y i H x H' → (∀ H3, L2.Same H H3 → R (.bl true) H3) → g x (wipe σ vs) H' fun σ2 H2 => wipe σ2 vs = wipe σ vs ∧ te σ2 H2 R)
    (done : ∀ H', L2.Same H1 H' → H' D = some (.lst ((List.replicate n true).map V.bl)) → Qd H') :
    ∃ W : Nat → Nat → Hp → Prop, (∃ m, W 0 m (upd H1 D (.lst []))) ∧ ∀ i m H, W i m H →
      (J.stop i H ∧ Qd H) ∨ (J.go i H ∧ ∃ Nx : Hp → Prop, (∀ H', Nx H' → ∃ m', m' < m ∧ W (i + 1) m' H') ∧ ∀ x H', J.yld i H x H' → g x (wipe σ vs) H' fun σ2 H2 => wipe σ2 vs = wipe σ vs ∧ tYes σ2 H2 fun b H3 =>
        if b = true then te σ2 H3 fun y H4 => ∃ acc, H4 D = some (.lst acc) ∧ acc.length < sizeLine ∧ Nx (upd H4 D (.lst (acc ++ [y]))) else Nx H3) := by
  refine lc_it W (tt := tYes) (fun i H' => L2.Same H1 H' ∧ H' D = some (.lst ((List.replicate i true).map V.bl))) ⟨Same.new hD, upd_same⟩ (fun i H' _ h => stay H' h.1) (fun i x H H' hi h y => ?_) (fun H' h => done H' h.1 h.2)
  obtain ⟨s1, hDp⟩ := h
  refine step i x H H' _ hi s1 y fun H3 s2 => ⟨_, s2 _ _ hDp, ?_, fun c o e => ?_, ?_⟩
  · rw [List.length_map, List.length_replicate]
    rw [sizeLine_eq]; omega
  · rw [upd_ne (ne_of_none e hD)]
    exact s2 _ _ (s1 _ _ e)
  · rw [upd_same, List.replicate_succ', List.map_append]
    rfl
end
theorem all_true (n : Nat) : (List.replicate n true).all id = true := by
  induction n with
  | zero => rfl
  | succ n ih => rw [List.replicate_succ, List.all_cons, ih]; rfl
theorem Wd.abc {x : Str} (h : Wd x) {c : Nat} (hc : c ∈ x.cps.toList) : c ∈ ("abcdefghijklmnopqrstuvwxyz" : Str).cps.toList := by
  have e : ("abcdefghijklmnopqrstuvwxyz" : Str).cps.toList = (List.range 26).map (· + 97) := by decide +kernel
  obtain ⟨h1, h2⟩ := h.2.2 c hc
  rw [e]
  exact List.mem_map.mpr ⟨c - 97, List.mem_range.mpr (by omega), by omega⟩
section
variable {P : Program} {w : World} {K : PySem.W.Frag} {mg : Str → Option Value} {base : Heap}
def spIsWord : Sp := fun vs H Q _ => ∃ x : Str, vs = [.str x] ∧ Wd x ∧ ∀ H', L2.Same H H' → Q (.bl true) H'
abbrev nIsWord : List Str := ["value", "letter"]
theorem scIsWord : FnScope nIsWord ["value"] (defScope pIsWord) := ⟨rfl, rfl, rfl, by decide +kernel, rfl, by decide +kernel, by decide +kernel⟩
theorem ok_isWord {f : Addr} {fd : FuncData} (F : Fun K "is_word" "is_word" pIsWord f fd) (T : Blt mg) (Z : Blp mg) : FnOk P w K mg base CX0 1 f fd ["value"] spIsWord := by
  refine F.ok scIsWord (fun vs H Q E h => ?_) (fun cdv A outer s H vs Q E hr h => ?_)
  · obtain ⟨x, rfl, _⟩ := h
    rfl
  · obtain ⟨x, rfl, wx, k⟩ := h
    have nd := scIsWord.nd
    obtain ⟨tl, ml⟩ := Z.letters
    obtain ⟨tn, mn⟩ := Z.longest
    refine ⟨_, pss_cons (ps_if (pt_cut <| PW.pt (pw_or (pt_not (pt_val (pe_callB call_isi (by rfl) Z.isi boot_isi (pa_cons (pv 0) (pa_cons (pe_bltn (v := .ty "str") (by rfl) Z.str (by decide +kernel) rfl) pa_nil)))))
          (pw_or1 (pt_not (pt_chain op_le op_le pe_int (pe_callB call_len (by rfl) T.len PySem.boot_len (pa_cons (pv 0) pa_nil)) (pe_glob (v := .int 8) rfl mn ⟨_, rfl⟩)))))) (pss_one (ps_ret pe_bl)) pss_nil)
      (pss_one (ps_ret (pe_callB (cr_all rfl) (by rfl) Z.all (by decide +kernel) (pa_cons
        (pe_lc (own := [("letter", 1)]) (g := gName 1) (tt := tYes) (te := tOp (fun x y H Q => ∃ (c : Nat) (z : Str), x = .str ⟨#[c]⟩ ∧ y = .str z ∧ Q (.bl (decide (c ∈ z.cps.toList))) H) (tVar 1) (tC (.str "abcdefghijklmnopqrstuvwxyz"))) rfl nd (pi_str (pv 0)) (blkOk_by (own := [("letter", 1)]) (N := nIsWord) (sc := defScope pIsWord) (by decide +kernel))
          (fun _ _ _ _ _ => pg_name (i := 1) nd rfl (Or.inl rfl)) (fun _ _ _ _ _ => pts_nil) (fun _ _ _ _ _ => pe_cmpR op_in_sign (pv 1) (pe_glob rfl ml ⟨_, rfl⟩) (by rfl))) pa_nil)))), ?_⟩
    have w1 := wx.1
    have w2 := wx.2.1
    refine ⟨fun b H' => b = false ∧ H' = H, ?_, ?_⟩
    · refine ⟨_, rfl, _, _, _, _, true, rfl, .ty _, .base (.str _), kit_ty (by decide +kernel), _, rfl, ?_⟩
      refine iteF ?_
      refine ⟨_, rfl, _, x.length, rfl, ⟨by rw [sizeLine_eq]; omega, rfl⟩, _, _, rfl, rfl, _, rfl, ?_⟩
      rw [decide_eq_true (show (1 : Int) ≤ (x.length : Int) by omega)]
      refine iteT ⟨_, _, rfl, rfl, _, rfl, ?_⟩
      rw [decide_eq_true (show (x.length : Int) ≤ 8 by omega)]
      exact ⟨rfl, rfl⟩
    · rintro b H' ⟨rfl, rfl⟩
      refine iteF ?_
      refine ⟨_, rfl, _, rfl, fun D hD => ?_⟩
      refine lc_true walk_str (by show x.length ≤ 200000; omega) hD (fun _ _ => trivial) ?_ ?_
      · rintro i v H1 H2 R hi s1 ⟨rfl, c, hc, rfl⟩ kR
        have hm : c ∈ x.cps.toList := by
          rw [← Array.getElem?_toList] at hc
          exact List.mem_of_getElem? hc
        refine ⟨rfl, _, rfl, c, _, rfl, rfl, ?_⟩
        rw [decide_eq_true (wx.abc hm)]
        exact kR _ fun _ _ e => e
      · intro H1 s1 hD1
        refine ⟨D, _, rfl, SqL.of hD1, ?_⟩
        rw [all_true]
        exact k _ s1
end
end KT
set_option Elab.async false
set_option linter.all false
set_option maxRecDepth 100000
set_option maxHeartbeats 4000000
namespace KT
open PySem L2 PyProof.Rows DTp
section
variable {P : Program} {w : World} {K : PySem.W.Frag} {mg : Str → Option Value} {base : Heap}
def spIsCount : Sp := fun vs H Q _ => ∃ n : Int, vs = [.int n] ∧ 0 ≤ n ∧ Q (.bl true) H
theorem scIsCount : FnScope ["value"] ["value"] (defScope pIsCount) := ⟨rfl, rfl, rfl, by decide +kernel, rfl, by decide +kernel, by decide +kernel⟩
theorem ok_isCount {f : Addr} {fd : FuncData} (F : Fun K "is_count" "is_count" pIsCount f fd) (T : Blt mg) (Z : Blp mg) : FnOk P w K mg base CX0 1 f fd ["value"] spIsCount := by
  refine F.ok scIsCount (fun vs H Q E h => ?_) (fun cdv A outer s H vs Q E hr h => ?_)
  · obtain ⟨n, rfl, _⟩ := h
    rfl
  · obtain ⟨n, rfl, n0, k⟩ := h
    refine ⟨_, pss_one (ps_ret (pe_and (pe_callB call_isi (by rfl) Z.isi boot_isi (pa_cons (pv 0) (pa_cons (pe_bltn (v := .ty "int") (by rfl) T.int boot_int rfl) pa_nil)))
      (pe_and (pe_not (pe_callB call_isi (by rfl) Z.isi boot_isi (pa_cons (pv 0) (pa_cons (pe_bltn (v := .ty "bool") (by rfl) Z.bool (by decide +kernel) rfl) pa_nil))))
        (pe_one (pe_cmpR op_ge (pv 0) pe_int (nomark _)))))), ?_⟩
    refine ⟨_, rfl, _, _, _, _, true, rfl, .ty _, .base (.int _), kit_ty (by decide +kernel), _, rfl, iteT ?_⟩
    refine ⟨_, rfl, _, _, _, _, false, rfl, .ty _, .base (.int _), kit_ty (by decide +kernel), _, rfl, _, rfl, iteT ?_⟩
    refine ⟨_, rfl, _, _, rfl, rfl, ?_⟩
    show Q (.bl (decide ((0 : Int) ≤ n))) H
    rw [decide_eq_true n0]
    exact k
def spCheckCount : Sp := fun vs H Q _ => ∃ n m : Int, vs = [.int n, .int m] ∧ 0 ≤ n ∧ m ≤ n ∧ Q .non H
theorem scCheckCount : FnScope ["number", "least"] ["number", "least"] (defScope pCheckCount) := ⟨rfl, rfl, rfl, by decide +kernel, rfl, by decide +kernel, by decide +kernel⟩
theorem ok_checkCount {f : Addr} {fd : FuncData} (F : Fun K "check_count" "check_count" pCheckCount f fd) (C : Cee P w K mg base 1 "is_count" ["value"] spIsCount) : FnOk P w K mg base CX0 2 f fd ["number", "least"] spCheckCount := by
  refine F.ok scCheckCount (fun vs H Q E h => ?_) (fun cdv A outer s H vs Q E hr h => ?_)
  · obtain ⟨n, m, rfl, _⟩ := h
    rfl
  · obtain ⟨n, m, rfl, n0, nm, k⟩ := h
    refine ⟨_, pss_one (ps_if (pt_cut <| PW.pt (pw_or (pt_not (pt_val (pe_c C hr rfl (pa_cons (pv 0) pa_nil)))) (pw_or1 (pt_cmpR op_lt (pv 0) (pv 1) (nomark _))))) (pss_one ps_never) pss_nil), ?_⟩
    refine ⟨fun b H' => b = false ∧ H' = H, ?_, ?_⟩
    · refine ⟨_, rfl, n, rfl, n0, _, rfl, iteF ?_⟩
      refine ⟨_, rfl, _, rfl, _, _, rfl, rfl, _, rfl, ?_⟩
      rw [decide_eq_false (show ¬ n < m by omega)]
      exact ⟨rfl, rfl⟩
    · rintro b H' ⟨rfl, rfl⟩
      exact iteF k
def spIsPair : Sp := fun vs H Q _ => ∃ (a : Addr) (x y : Str), vs = [.ref a] ∧ H a = some (.tup [.str x, .str y]) ∧ Wd x ∧ Wd y ∧ ∀ H', L2.Same H H' → Q (.bl true) H'
theorem scIsPair : FnScope ["value"] ["value"] (defScope pIsPair) := ⟨rfl, rfl, rfl, by decide +kernel, rfl, by decide +kernel, by decide +kernel⟩
theorem ok_isPair {f : Addr} {fd : FuncData} (F : Fun K "_is_pair" "_is_pair" pIsPair f fd) (T : Blt mg) (Z : Blp mg) (C : Cee P w K mg base 1 "is_word" ["value"] spIsWord) : FnOk P w K mg base CX0 2 f fd ["value"] spIsPair := by
  refine F.ok scIsPair (fun vs H Q E h => ?_) (fun cdv A outer s H vs Q E hr h => ?_)
  · obtain ⟨a, x, y, rfl, _⟩ := h
    rfl
  · obtain ⟨a, x, y, rfl, ha, wx, wy, k⟩ := h
    refine ⟨_, pss_one (ps_ret (pe_and (pe_callB call_isi (by rfl) Z.isi boot_isi (pa_cons (pv 0) (pa_cons (pe_bltn (v := .ty "tuple") (by rfl) Z.tuple (by decide +kernel) rfl) pa_nil)))
      (pe_and (pe_cmpR op_eq (pe_callB call_len_seq (by rfl) T.len PySem.boot_len (pa_cons (pv 0) pa_nil)) pe_int (nomark _))
      (pe_and (pe_c C hr rfl (pa_cons (pe_ix ix_tup (pv 0) pe_int (fun _ _ => rfl)) pa_nil)) (pe_one (pe_c C hr rfl (pa_cons (pe_ix ix_tup (pv 0) pe_int (fun _ _ => rfl)) pa_nil))))))), ?_⟩
    refine ⟨_, rfl, _, _, _, _, true, rfl, .ty _, .base (.tup ha), kit_ty (by decide +kernel), _, rfl, iteT ?_⟩
    refine ⟨_, rfl, a, _, rfl, .inr (SqT.of ha), rfl, _, rfl, iteT ?_⟩
    refine ⟨_, rfl, a, _, _, _, rfl, rfl, SqT.of ha, atI_nat (j := 0) rfl, x, rfl, wx, fun H1 s1 => ⟨_, rfl, iteT ?_⟩⟩
    exact ⟨_, rfl, a, _, _, _, rfl, rfl, SqT.of (s1 _ _ ha), atI_nat (j := 1) rfl, y, rfl, wy, fun H2 s2 => k _ fun b o e => s2 _ _ (s1 _ _ e)⟩
end
end KT
set_option Elab.async false
set_option linter.all false
set_option maxRecDepth 100000
set_option maxHeartbeats 4000000
namespace KT
open PySem L2 PyProof.Rows DTp
/-- a table of words that may be read -/
def TabW (H : Hp) (a : Addr) (ws : List Str) (f : Str → Str → Str) : Prop := ∃ kvs, Rd H a (.dT kvs) ∧ TbG (SqW ws) keyP (valW f) kvs
theorem TabW.mono {H H' : Hp} {a : Addr} {ws : List Str} {f : Str → Str → Str} (s : L2.Same H H') (h : TabW H a ws f) : TabW H' a ws f := by
  obtain ⟨kvs, h1, h2⟩ := h
  rcases h1 with e | ⟨od, e⟩
  · exact ⟨kvs, .inl (s _ _ e), h2⟩
  · exact ⟨kvs, .inr ⟨od, s _ _ e⟩, h2⟩
theorem TabW.get {H : Hp} {a b : Addr} {ws : List Str} {f : Str → Str → Str} {x y : Str} (h : TabW H a ws f) (hx : x ∈ ws) (hy : y ∈ ws) (hb : H b = some (.tup [.str x, .str y])) : DGet H a (.ref b) (some (.str (f x y))) := by
  obtain ⟨kvs, h1, h2⟩ := h
  have e : DGet H a (.ref b) (valV kvs (keyP (x, y))) := .inr ⟨kvs, keyP (x, y), b, h1, rfl, hb, rfl⟩
  rw [h2.get (i := (x, y)) ⟨hx, hy⟩] at e
  exact e
theorem tbW_len {ws : List Str} {f : Str → Str → Str} {kvs : List (List Key × V)} (h : TbG (SqW ws) keyP (valW f) kvs) (n : ws.Nodup) : kvs.length = ws.length * ws.length := by
  obtain ⟨is, e1, ndi, e2⟩ := h.idxs keyP_inj
  have pm : is.Perm (pairsW ws) := (List.perm_ext_iff_of_nodup ndi (pairsW_nodup n)).mpr fun p => by rw [mem_pairsW, ← e2]
  rw [e1, List.length_map, pm.length_eq, pairsW_len]
theorem str_get {ws : List Str} {i : Nat} {x : V} (h : (ws.map V.str)[i]? = some x) : ∃ y, ws[i]? = some y ∧ x = .str y := by
  rw [List.getElem?_map] at h
  cases e : ws[i]? with
  | none => rw [e] at h; cases h
  | some y => rw [e] at h; exact ⟨y, rfl, (Option.some.inj h).symm⟩
section
variable {P : Program} {w : World} {K : PySem.W.Frag} {mg : Str → Option Value} {base : Heap}
def spIsFull : Sp := fun vs H Q _ => ∃ (a l : Addr) (kvs : List (List Key × V)) (ws : List Str) (f : Str → Str → Str), vs = [.ref a, .ref l] ∧ H a = some (.dT kvs) ∧ TbG (SqW ws) keyP (valW f) kvs ∧ KW ws f ∧ H l = some (.lst (ws.map V.str)) ∧ ∀ H', L2.Same H H' → Q (.bl true) H'
abbrev nFull : List Str := ["table", "words", "one", "other"]
theorem scFull : FnScope nFull ["table", "words"] (defScope pIsFull) := ⟨rfl, rfl, rfl, by decide +kernel, rfl, by decide +kernel, by decide +kernel⟩
theorem ok_isFull {f : Addr} {fd : FuncData} (F : Fun K "_is_full" "_is_full" pIsFull f fd) (T : Blt mg) (Z : Blp mg) : FnOk P w K mg base CX0 1 f fd ["table", "words"] spIsFull := by
  refine F.ok scFull (fun vs H Q E h => ?_) (fun cdv A outer s H vs Q E hr h => ?_)
  · obtain ⟨a, l, kvs, ws, f, rfl, _⟩ := h
    rfl
  · obtain ⟨a, l, kvs, ws, f, rfl, ha, tb, kw, hl, k⟩ := h
    have nd := scFull.nd
    refine ⟨_, pss_cons (ps_if (pt_cmpR op_ne (pe_callB call_len_dT (by rfl) T.len PySem.boot_len (pa_cons (pv 0) pa_nil)) (pe_op op_mul (pe_callB call_len_seq (by rfl) T.len PySem.boot_len (pa_cons (pv 1) pa_nil)) (pe_callB call_len_seq (by rfl) T.len PySem.boot_len (pa_cons (pv 1) pa_nil))) (nomark _)) (pss_one (ps_ret pe_bl)) pss_nil)
      (pss_one (ps_ret (pe_callB (cr_all rfl) (by rfl) Z.all (by decide +kernel) (pa_cons
        (GC.pe_lcs (own := [("one", 2), ("other", 3)]) (g := gName 2) (tt := tYes) (te := tAndV (tDIn (tTup (tCons (tVar 2) (tCons (tVar 3) tNil))) (tVar 0)) (tOp (rIn K false) (tDGet (tVar 0) (tTup (tCons (tVar 2) (tCons (tVar 3) tNil)))) (tVar 1))) rfl nd (pi_list (pv 1))
          (blkOk_by (own := [("one", 2), ("other", 3)]) (N := nFull) (sc := defScope pIsFull) (by decide +kernel)) (fun _ _ _ _ _ => pg_name (i := 2) nd rfl (Or.inl rfl)) (fun _ _ _ _ _ => pts_nil)
          (GC.cl1 (wi := iList K (tVar 1)) (g := gName 3) (tt := tYes) [3] (fun _ _ _ _ _ => pi_list (pv 1)) (fun _ _ _ _ _ => pg_name (i := 3) nd rfl (Or.inl rfl)) (fun _ _ _ _ _ => pts_nil) GC.cl0)
          ⟨(by show ∀ i ∈ [3], i ∈ [2, 3]; decide), trivial⟩
          (fun _ _ _ _ _ => pe_and (pe_cmp (pc_din (hu_of hr) (pe_tup (pa_cons (pv 2) (pa_cons (pv 3) pa_nil))) (pv 0)) (by rfl)) (pe_one (pe_cmpR op_in_seq (pe_dget (hu_of hr) (pv 0) (pe_tup (pa_cons (pv 2) (pa_cons (pv 3) pa_nil))) (fun _ _ => rfl)) (pv 1) (by rfl))))) pa_nil)))), ?_⟩
    have k4 := kw.few
    have n16 : ws.length * ws.length ≤ 16 := Nat.le_trans (Nat.mul_le_mul k4 k4) (by decide)
    refine ⟨_, rfl, a, kvs, rfl, ha, _, rfl, l, _, rfl, .inl (SqL.of hl), _, rfl, l, _, rfl, .inl (SqL.of hl), ?_⟩
    rw [List.length_map]
    refine ⟨_, _, rfl, rfl, .inl ⟨by omega, by omega⟩, rfl, _, rfl, ?_⟩
    rw [tbW_len tb kw.asc.nodup, decide_eq_true (show V.int ((ws.length * ws.length : Nat) : Int) = V.int ((ws.length : Int) * (ws.length : Int)) by rw [Int.natCast_mul])]
    refine iteF ?_
    refine ⟨_, rfl, l, rfl, ⟨_, SqL.of hl⟩, fun D hD => ?_⟩
    have tbH : TabW H a ws f := ⟨kvs, .inl ha, tb⟩
    refine GC.lp_it (walk_list (K := K) (a := l) (xs := ws.map V.str)) (fun i H' => L2.Same H H' ∧ ∃ m, m ≤ i * ws.length ∧ H' D = some (.lst ((List.replicate m true).map V.bl))) ?_ ?_ ?_ ?_
    · exact ⟨Same.new hD, 0, Nat.zero_le _, upd_same⟩
    · rintro i H1 _ ⟨s1, _⟩
      exact SqL.of (s1 _ _ hl)
    · rintro i x H0 H1 hi ⟨s1, m, hm, hD1⟩ ⟨rfl, hx⟩
      obtain ⟨x, ex, rfl⟩ := str_get hx
      have mx : x ∈ ws := List.mem_of_getElem? ex
      rw [List.length_map] at hi
      dsimp only
      refine at_name (σ' := [some (.ref a), some (.ref l), some (.str x), none]) rfl ?_
      refine ⟨rfl, yes_if ?_⟩
      refine ⟨_, rfl, l, rfl, ⟨_, SqL.of (s1 _ _ hl)⟩, ?_⟩
      refine GC.lp_it (walk_list (K := K) (a := l) (xs := ws.map V.str)) (fun j H' => L2.Same H H' ∧ ∃ m, m ≤ i * ws.length + j ∧ H' D = some (.lst ((List.replicate m true).map V.bl))) ?_ ?_ ?_ ?_
      · exact ⟨s1, m, by omega, hD1⟩
      · rintro j H2 _ ⟨s2, _⟩
        exact SqL.of (s2 _ _ hl)
      · rintro j y H2' H2 hj ⟨s2, m, hm, hD2⟩ ⟨rfl, hy⟩
        obtain ⟨y, ey, rfl⟩ := str_get hy
        have my : y ∈ ws := List.mem_of_getElem? ey
        rw [List.length_map] at hj
        dsimp only
        refine at_name (σ' := [some (.ref a), some (.ref l), some (.str x), some (.str y)]) rfl ?_
        refine ⟨rfl, yes_if ?_⟩
        refine ⟨_, rfl, _, rfl, (by show 2 ≤ sizeLine; decide), fun t1 ht1 => ?_⟩
        have a1 := Same.new (H := H2) (o := .tup [.str x, .str y]) ht1
        have a2 : upd H2 t1 (.tup [.str x, .str y]) t1 = _ := upd_same
        generalize upd H2 t1 (.tup [.str x, .str y]) = G1 at a1 a2 ⊢
        refine ⟨_, rfl, a, _, rfl, ((tbH.mono s2).mono a1).get mx my a2, _, rfl, iteT ?_⟩
        refine ⟨_, rfl, _, rfl, _, rfl, (by show 2 ≤ sizeLine; decide), fun t2 ht2 => ?_⟩
        have b1 := Same.new (H := G1) (o := .tup [.str x, .str y]) ht2
        have b2 : upd G1 t2 (.tup [.str x, .str y]) t2 = _ := upd_same
        generalize upd G1 t2 (.tup [.str x, .str y]) = G2 at b1 b2 ⊢
        have al : ∀ c o, H2 c = some o → G2 c = some o := fun c o e => b1 _ _ (a1 _ _ e)
        refine ⟨a, _, rfl, (((tbH.mono s2).mono a1).mono b1).get mx my b2, _, rfl, l, _, rfl, .inl (SqL.of (al _ _ (s2 _ _ hl))), rfl, flat_strs ws, ?_⟩
        rw [if_neg Bool.false_ne_true, inV_strs, decide_eq_true (kw.cl x y mx my)]
        refine ⟨_, al _ _ hD2, ?_, fun c o e => ?_, m + 1, by omega, ?_⟩
        · rw [List.length_map, List.length_replicate]
          have : i * ws.length ≤ ws.length * ws.length := Nat.mul_le_mul_right _ (by omega)
          exact small1000 (by omega)
        · rw [upd_ne (ne_of_none e hD)]
          exact al _ _ (s2 _ _ e)
        · rw [upd_same, List.replicate_succ', List.map_append]
          rfl
      · rintro H2 ⟨s2, m, hm, hD2⟩
        rw [List.length_map] at hm
        exact ⟨s2, m, by rw [Nat.succ_mul]; exact hm, hD2⟩
    · rintro H1 ⟨s1, m, hm, hD1⟩
      refine ⟨D, _, rfl, SqL.of hD1, ?_⟩
      rw [all_true]
      exact k _ s1
end
end KT
set_option Elab.async false
set_option linter.all false
set_option maxRecDepth 100000
set_option maxHeartbeats 4000000
namespace KT
open PySem L2 PyProof.Rows DTp
section
variable {P : Program} {w : World} {K : PySem.W.Frag} {mg : Str → Option Value} {base : Heap}
abbrev nFree : List Str := ["table", "words", "first", "second", "third"]
abbrev tGet2 (d : TE) (x y : TE) : TE := tDGet d (tTup (tCons x (tCons y tNil)))
theorem scFree : FnScope nFree ["table", "words"] (defScope pIsFree) := ⟨rfl, rfl, rfl, by decide +kernel, rfl, by decide +kernel, by decide +kernel⟩
theorem ok_isFree {f : Addr} {fd : FuncData} (F : Fun K "_is_free_of_brackets" "_is_free_of_brackets" pIsFree f fd) (T : Blt mg) (Z : Blp mg) : FnOk P w K mg base CX0 1 f fd ["table", "words"] spIsFull := by
  refine F.ok scFree (fun vs H Q E h => ?_) (fun cdv A outer s H vs Q E hr h => ?_)
  · obtain ⟨a, l, kvs, ws, f, rfl, _⟩ := h
    rfl
  · obtain ⟨a, l, kvs, ws, f, rfl, ha, tb, kw, hl, k⟩ := h
    have nd := scFree.nd
    refine ⟨_, pss_one (ps_ret (pe_callB (cr_all rfl) (by rfl) Z.all (by decide +kernel) (pa_cons
        (GC.pe_lcs (own := [("first", 2), ("second", 3), ("third", 4)]) (g := gName 2) (tt := tYes) (te := tOp rEq (tGet2 (tVar 0) (tGet2 (tVar 0) (tVar 2) (tVar 3)) (tVar 4)) (tGet2 (tVar 0) (tVar 2) (tGet2 (tVar 0) (tVar 3) (tVar 4)))) rfl nd (pi_list (pv 1))
          (blkOk_by (own := [("first", 2), ("second", 3), ("third", 4)]) (N := nFree) (sc := defScope pIsFree) (by decide +kernel)) (fun _ _ _ _ _ => pg_name (i := 2) nd rfl (Or.inl rfl)) (fun _ _ _ _ _ => pts_nil)
          (GC.cl1 (wi := iList K (tVar 1)) (g := gName 3) (tt := tYes) [3, 4] (fun _ _ _ _ _ => pi_list (pv 1)) (fun _ _ _ _ _ => pg_name (i := 3) nd rfl (Or.inl rfl)) (fun _ _ _ _ _ => pts_nil)
            (GC.cl1 (wi := iList K (tVar 1)) (g := gName 4) (tt := tYes) [4] (fun _ _ _ _ _ => pi_list (pv 1)) (fun _ _ _ _ _ => pg_name (i := 4) nd rfl (Or.inl rfl)) (fun _ _ _ _ _ => pts_nil) GC.cl0))
          ⟨(by show ∀ i ∈ [3, 4], i ∈ [2, 3, 4]; decide), (by show ∀ i ∈ [4], i ∈ [3, 4]; decide), trivial⟩
          (fun _ _ _ _ _ => pe_cmpR op_eq (pe_dget (hu_of hr) (pv 0) (pe_tup (pa_cons (pe_dget (hu_of hr) (pv 0) (pe_tup (pa_cons (pv 2) (pa_cons (pv 3) pa_nil))) (fun _ _ => rfl)) (pa_cons (pv 4) pa_nil))) (fun _ _ => rfl))
            (pe_dget (hu_of hr) (pv 0) (pe_tup (pa_cons (pv 2) (pa_cons (pe_dget (hu_of hr) (pv 0) (pe_tup (pa_cons (pv 3) (pa_cons (pv 4) pa_nil))) (fun _ _ => rfl)) pa_nil))) (fun _ _ => rfl)) (nomark _))) pa_nil))), ?_⟩
    have k4 := kw.few
    refine ⟨_, rfl, l, rfl, ⟨_, SqL.of hl⟩, fun D hD => ?_⟩
    have tbH : TabW H a ws f := ⟨kvs, .inl ha, tb⟩
    refine GC.lp_it (walk_list (K := K) (a := l) (xs := ws.map V.str)) (fun i H' => L2.Same H H' ∧ ∃ m, m ≤ i * 16 ∧ H' D = some (.lst ((List.replicate m true).map V.bl))) ?_ ?_ ?_ ?_
    · exact ⟨Same.new hD, 0, Nat.zero_le _, upd_same⟩
    · rintro i H1 _ ⟨s1, _⟩
      exact SqL.of (s1 _ _ hl)
    · rintro i x H0 H1 hi ⟨s1, m, hm, hD1⟩ ⟨rfl, hx⟩
      obtain ⟨x, ex, rfl⟩ := str_get hx
      have mx : x ∈ ws := List.mem_of_getElem? ex
      rw [List.length_map] at hi
      dsimp only
      refine at_name (σ' := [some (.ref a), some (.ref l), some (.str x), none, none]) rfl ?_
      refine ⟨rfl, yes_if ?_⟩
      refine ⟨_, rfl, l, rfl, ⟨_, SqL.of (s1 _ _ hl)⟩, ?_⟩
      refine GC.lp_it (walk_list (K := K) (a := l) (xs := ws.map V.str)) (fun j H' => L2.Same H H' ∧ ∃ m, m ≤ i * 16 + j * 4 ∧ H' D = some (.lst ((List.replicate m true).map V.bl))) ?_ ?_ ?_ ?_
      · exact ⟨s1, m, by omega, hD1⟩
      · rintro j H2 _ ⟨s2, _⟩
        exact SqL.of (s2 _ _ hl)
      · rintro j y H2' H2 hj ⟨s2, m, hm, hD2⟩ ⟨rfl, hy⟩
        obtain ⟨y, ey, rfl⟩ := str_get hy
        have my : y ∈ ws := List.mem_of_getElem? ey
        rw [List.length_map] at hj
        dsimp only
        refine at_name (σ' := [some (.ref a), some (.ref l), some (.str x), some (.str y), none]) rfl ?_
        refine ⟨rfl, yes_if ?_⟩
        refine ⟨_, rfl, l, rfl, ⟨_, SqL.of (s2 _ _ hl)⟩, ?_⟩
        refine GC.lp_it (walk_list (K := K) (a := l) (xs := ws.map V.str)) (fun r H' => L2.Same H H' ∧ ∃ m, m ≤ i * 16 + j * 4 + r ∧ H' D = some (.lst ((List.replicate m true).map V.bl))) ?_ ?_ ?_ ?_
        · exact ⟨s2, m, by omega, hD2⟩
        · rintro r H3 _ ⟨s3, _⟩
          exact SqL.of (s3 _ _ hl)
        · rintro r z H3' H3 hr3 ⟨s3, m, hm, hD3⟩ ⟨rfl, hz⟩
          obtain ⟨z, ez, rfl⟩ := str_get hz
          have mz : z ∈ ws := List.mem_of_getElem? ez
          rw [List.length_map] at hr3
          dsimp only
          refine at_name (σ' := [some (.ref a), some (.ref l), some (.str x), some (.str y), some (.str z)]) rfl ?_
          refine ⟨rfl, yes_if ?_⟩
          have mxy := kw.cl x y mx my
          have myz := kw.cl y z my mz
          refine ⟨_, rfl, _, rfl, _, rfl, _, rfl, (by show 2 ≤ sizeLine; decide), fun t1 ht1 => ?_⟩
          have a1 := Same.new (H := H3) (o := .tup [.str x, .str y]) ht1
          have a2 : upd H3 t1 (.tup [.str x, .str y]) t1 = _ := upd_same
          generalize upd H3 t1 (.tup [.str x, .str y]) = G1 at a1 a2 ⊢
          refine ⟨a, _, rfl, ((tbH.mono s3).mono a1).get mx my a2, _, rfl, (by show 2 ≤ sizeLine; decide), fun t2 ht2 => ?_⟩
          have b1 := Same.new (H := G1) (o := .tup [.str (f x y), .str z]) ht2
          have b2 : upd G1 t2 (.tup [.str (f x y), .str z]) t2 = _ := upd_same
          generalize upd G1 t2 (.tup [.str (f x y), .str z]) = G2 at b1 b2 ⊢
          refine ⟨a, _, rfl, (((tbH.mono s3).mono a1).mono b1).get mxy mz b2, ?_⟩
          refine ⟨_, rfl, _, rfl, _, rfl, _, rfl, _, rfl, (by show 2 ≤ sizeLine; decide), fun t3 ht3 => ?_⟩
          have c1 := Same.new (H := G2) (o := .tup [.str y, .str z]) ht3
          have c2 : upd G2 t3 (.tup [.str y, .str z]) t3 = _ := upd_same
          generalize upd G2 t3 (.tup [.str y, .str z]) = G3 at c1 c2 ⊢
          refine ⟨a, _, rfl, ((((tbH.mono s3).mono a1).mono b1).mono c1).get my mz c2, (by show 2 ≤ sizeLine; decide), fun t4 ht4 => ?_⟩
          have d1 := Same.new (H := G3) (o := .tup [.str x, .str (f y z)]) ht4
          have d2 : upd G3 t4 (.tup [.str x, .str (f y z)]) t4 = _ := upd_same
          generalize upd G3 t4 (.tup [.str x, .str (f y z)]) = G4 at d1 d2 ⊢
          have al : ∀ b o, H3 b = some o → G4 b = some o := fun b o e => d1 _ _ (c1 _ _ (b1 _ _ (a1 _ _ e)))
          refine ⟨a, _, rfl, (((((tbH.mono s3).mono a1).mono b1).mono c1).mono d1).get mx myz d2, rfl, ?_⟩
          rw [kw.as x y z mx my mz, decide_eq_true rfl]
          refine ⟨_, al _ _ hD3, ?_, fun c o e => ?_, m + 1, by omega, ?_⟩
          · rw [List.length_map, List.length_replicate]
            exact small1000 (by omega)
          · rw [upd_ne (ne_of_none e hD)]
            exact al _ _ (s3 _ _ e)
          · rw [upd_same, List.replicate_succ', List.map_append]
            rfl
        · rintro H3 ⟨s3, m, hm, hD3⟩
          rw [List.length_map] at hm
          exact ⟨s3, m, by omega, hD3⟩
      · rintro H2 ⟨s2, m, hm, hD2⟩
        rw [List.length_map] at hm
        exact ⟨s2, m, by omega, hD2⟩
    · rintro H1 ⟨s1, m, hm, hD1⟩
      refine ⟨D, _, rfl, SqL.of hD1, ?_⟩
      rw [all_true]
      exact k _ s1
end
end KT
set_option Elab.async false
set_option linter.all false
set_option maxRecDepth 100000
set_option maxHeartbeats 4000000
namespace KT
open PySem L2 PyProof.Rows DTp TxS
theorem added_mem {L : List Str} {k x : Str} : x ∈ added L k ↔ x ∈ L ∨ x = k := by
  unfold added
  by_cases h : k ∈ L
  · rw [if_pos h]
    exact ⟨.inl, fun q => q.elim id fun e => e ▸ h⟩
  · rw [if_neg h, List.mem_append, List.mem_singleton]
theorem added_nodup {L : List Str} {k : Str} (n : L.Nodup) : (added L k).Nodup := by
  unfold added
  by_cases h : k ∈ L
  · rw [if_pos h]; exact n
  · rw [if_neg h]
    exact List.nodup_append.mpr ⟨n, by simp, fun a ha b hb e => h (by rw [← List.mem_singleton.mp hb, ← e]; exact ha)⟩
section
variable {P : Program} {w : World} {K : PySem.W.Frag} {mg : Str → Option Value} {base : Heap}
/-- sorted({one for one, _ in table}) -/
theorem rd_words {te0 : TE} {tg iter : Expr} {ifs : List Expr} {i j : Nat} {vs : List Nat} {σ : L2.St} {H : Hp} {Q : VK} {d : Addr} {kvs : List (List Key × V)} {ws : List Str} {f : Str → Str → Str}
    (hi : ∀ od (R : VK), R (.ref d) (upd H d (.frz od (.dT kvs))) → te0 σ (upd H d (.frz od (.dT kvs))) R) (hd : H d = some (.dT kvs)) (tb : TbG (SqW ws) keyP (valW f) kvs) (kw : KW ws f)
    (hw : ∀ a b, wipe (((wipe σ vs).set i (some a)).set j (some b)) vs = wipe σ vs) (hg : ∀ a b, (((wipe σ vs).set i (some a)).set j (some b))[i]? = some (some a))
    (k : ∀ l H', L2.Same H H' → H l = none → H' l = some (.lst (ws.map V.str)) → Q (.ref l) H') :
    tCB (rSortX w) (tCons (tLockE (GC.tCo (fun D => SetX w D []) ⟨tg, iter, ifs, iKeys te0, gXY K i j, tYes, vs⟩ [] (emX w (tVar i)))) tNil) σ H Q := by
  obtain ⟨is, e1, ndi, e2⟩ := tb.idxs keyP_inj
  have li : is.length = kvs.length := by rw [e1, List.length_map]
  refine ⟨d, .dT kvs, hd, trivial, fun od => ?_⟩
  refine hi od _ ⟨d, od, rfl, .inr ⟨kvs, upd_same, fun D hD => ?_⟩⟩
  have nDd : D ≠ d := fun e => by rw [e, upd_same] at hD; cases hD
  have hD0 : H D = none := by rw [upd_ne nDd] at hD; exact hD
  have small : ∀ L : List Str, L.Nodup → (∀ x ∈ L, x ∈ ws) → L.length ≤ 4 := fun L n h => Nat.le_trans (List.Nodup.length_le_of_subset n h) kw.few
  refine GC.lp_it walk_keysT (fun n H' => ∃ L : List Str, L2.Same (upd H d (.frz od (.dT kvs))) H' ∧ H' D = some (SetX w D L) ∧ L.Nodup ∧ ∀ x, x ∈ L ↔ x ∈ (is.take n).map (·.1)) ?_ ?_ ?_ ?_
  · exact ⟨[], Same.new hD, upd_same, .nil, fun x => by simp⟩
  · rintro i H1 _ ⟨L, s1, _⟩
    exact s1 _ _ upd_same
  · rintro n x H0 H1 hn ⟨L, s1, hD1, nL, mL⟩ ⟨rfl, kk, v, q, hk, rfl, hq⟩
    have hn' : n < is.length := by omega
    have ea : is[n]? = some is[n] := List.getElem?_eq_getElem hn'
    have ek : kvs[n]? = some (keyP is[n], valW f is[n]) := by
      have e3 := congrArg (fun l : List (List Key × V) => l[n]?) e1
      simp only [List.getElem?_map, ea] at e3
      exact e3
    rw [hk] at ek
    have ek := Option.some.inj ek
    have mi := (e2 is[n]).mpr (List.getElem_mem hn')
    obtain ⟨⟨x, y⟩, exy⟩ : ∃ a, a = is[n] := ⟨_, rfl⟩
    rw [← exy] at ek ea mi
    obtain ⟨rfl, rfl⟩ : kk = keyP (x, y) ∧ v = valW f (x, y) := ⟨congrArg Prod.fst ek, congrArg Prod.snd ek⟩
    have hq' : H1 q = some (.tup [.str x, .str y]) := hq
    have inw : ∀ z, z ∈ L → z ∈ ws := fun z hz => by
      obtain ⟨p, hp, rfl⟩ := List.mem_map.mp ((mL z).mp hz)
      exact ((e2 p).mpr (List.mem_of_mem_take hp)).1
    have l4 := small L nL inw
    refine ⟨q, _, rfl, SqT.of hq', rfl, _, _, rfl, _, _, rfl, rfl, hw _ _, ?_⟩
    dsimp only
    refine yes_if ?_
    refine ⟨_, hg _ _, x, L, rfl, hD1, ?_, added L x, fun c o e => ?_, upd_same, added_nodup nL, fun z => ?_⟩
    · have : (100 : Nat) < scanBound := by decide +kernel
      omega
    · rw [upd_ne (ne_of_none e hD)]
      exact s1 _ _ e
    · rw [added_mem, mL, take_next' ea, List.map_append, List.mem_append]
      simp
  · rintro H1 ⟨L, s1, hD1, nL, mL⟩
    rw [← li, List.take_length] at mL
    have hdl : H1 d = some (.frz od (.dT kvs)) := s1 _ _ upd_same
    have mW : ∀ z, z ∈ L ↔ z ∈ ws := fun z => by
      rw [mL, List.mem_map]
      constructor
      · rintro ⟨p, hp, rfl⟩
        exact ((e2 p).mpr hp).1
      · intro hz
        exact ⟨(z, z), (e2 (z, z)).mp ⟨hz, hz⟩, rfl⟩
    have l4 := small L nL fun z hz => (mW z).mp hz
    refine ⟨hdl, D, L, rfl, ?_, by omega, fun ys l pm so hl => ?_⟩
    · rw [upd_ne nDd]; exact hD1
    · have same : L2.Same H (upd H1 d (.dT kvs)) := fun b o e => by
        by_cases hb : b = d
        · rw [hb] at e ⊢
          rw [hd] at e
          rw [upd_same]; exact e
        · rw [upd_ne hb]
          exact s1 _ _ ((upd_ne hb).trans e)
      have hl0 := same.free hl
      have asc := sortedS_asc so (pm.nodup_iff.mpr nL)
      have ey : ys = ws := asc.eq kw.asc ((List.perm_ext_iff_of_nodup (pm.nodup_iff.mpr nL) kw.asc.nodup).mpr fun z => by rw [pm.mem_iff, mW])
      rw [ey]
      refine k l _ (fun b o e => ?_) hl0 upd_same
      rw [upd_ne (ne_of_none e hl0)]
      exact same _ _ e
def spIsTable : Sp := fun vs H Q _ => ∃ (a : Addr) (kvs : List (List Key × V)) (ws : List Str) (f : Str → Str → Str), vs = [.ref a] ∧ H a = some (.dT kvs) ∧ TbG (SqW ws) keyP (valW f) kvs ∧ KW ws f ∧ ∀ H', L2.Same H H' → Q (.bl true) H'
abbrev nIsTable : List Str := ["table", "words", "pair", "one", "_"]
theorem scIsTable : FnScope nIsTable ["table"] (defScope pIsTable) := ⟨rfl, rfl, rfl, by decide +kernel, rfl, by decide +kernel, by decide +kernel⟩
structure IsTC (P : Program) (w : World) (K : PySem.W.Frag) (mg : Str → Option Value) (base : Heap) : Prop where
  pair : Cee P w K mg base 2 "_is_pair" ["value"] spIsPair
  full : Cee P w K mg base 1 "_is_full" ["table", "words"] spIsFull
  free : Cee P w K mg base 1 "_is_free_of_brackets" ["table", "words"] spIsFull
theorem ok_isTable {f : Addr} {fd : FuncData} (F : Fun K "_is_table" "_is_table" pIsTable f fd) (T : Blt mg) (Z : Blp mg) (C : IsTC P w K mg base) : FnOk P w K mg base CX0 3 f fd ["table"] spIsTable := by
  refine F.ok scIsTable (fun vs H Q E h => ?_) (fun cdv A outer s H vs Q E hr h => ?_)
  · obtain ⟨a, kvs, ws, f, rfl, _⟩ := h
    rfl
  · obtain ⟨a, kvs, ws, f, rfl, ha, tb, kw, k⟩ := h
    have nd := scIsTable.nd
    refine ⟨_, pss_cons (ps_if (pt_cut <| PW.pt (pw_or (pt_not (pt_val (pe_callB call_isi (by rfl) Z.isi boot_isi (pa_cons (pv 0) (pa_cons (pe_bltn (v := .ty "dict") (by rfl) Z.dict (by decide +kernel) rfl) pa_nil)))))
          (pw_or1 (pt_cmpR op_eq (pe_callB call_len_dT (by rfl) T.len PySem.boot_len (pa_cons (pv 0) pa_nil)) pe_int (nomark _))))) (pss_one (ps_ret pe_bl)) pss_nil)
      (pss_cons (ps_if (pt_not (pt_val (pe_callB (cr_all rfl) (by rfl) Z.all (by decide +kernel) (pa_cons (pe_lock
          (pe_lc (own := [("pair", 2)]) (g := gName 2) (tt := tYes) (te := tCall spIsPair [] E0 (tCons (tVar 2) tNil)) rfl nd (pi_keys (pv 0)) (blkOk_by (own := [("pair", 2)]) (N := nIsTable) (sc := defScope pIsTable) (by decide +kernel))
            (fun _ _ _ _ _ => pg_name (i := 2) nd rfl (Or.inl rfl)) (fun _ _ _ _ _ => pts_nil) (fun _ _ _ _ _ => pe_c C.pair hr rfl (pa_cons (pv 2) pa_nil)))) pa_nil)))) (pss_one (ps_ret pe_bl)) pss_nil)
      (pss_cons (ps_set (i := 1) nd rfl (Or.inl rfl) (pe_callB (cr_sortX rfl) (by rfl) Z.sorted (by decide +kernel) (pa_cons (pe_lock
          (pe_scX (own := [("one", 3), ("_", 4)]) (g := gXY K 3 4) (tt := tYes) (te := tVar 3) rfl nd (pi_keys (pv 0)) (blkOk_by (own := [("one", 3), ("_", 4)]) (N := nIsTable) (sc := defScope pIsTable) (by decide +kernel))
            (fun _ _ _ _ _ => pg_tup rfl (pgs_cons (pg_name (i := 3) nd rfl (Or.inl rfl)) (pgs_cons (pg_name (i := 4) nd rfl (Or.inl rfl)) pgs_nil))) (fun _ _ _ _ _ => pts_nil) GC.cl0 trivial (fun _ _ _ _ _ => pv 3))) pa_nil)))
      (pss_one (ps_ret (pe_and (pe_c C.full hr rfl (pa_cons (pv 0) (pa_cons (pv 1) pa_nil))) (pe_one (pe_c C.free hr rfl (pa_cons (pv 0) (pa_cons (pv 1) pa_nil))))))))), ?_⟩
    have kl := tbW_len tb kw.asc.nodup
    have k4 := kw.few
    have k1 := kw.pos
    have n16 : ws.length * ws.length ≤ 16 := Nat.le_trans (Nat.mul_le_mul k4 k4) (by decide)
    have n1 : 0 < ws.length * ws.length := Nat.mul_pos k1 k1
    refine ⟨fun b H' => b = false ∧ H' = H, ?_, ?_⟩
    · refine ⟨_, rfl, _, _, _, _, true, rfl, .ty _, .base (.dT ha), kit_ty (by decide +kernel), _, rfl, iteF ?_⟩
      refine ⟨_, rfl, a, kvs, rfl, ha, rfl, _, rfl, ?_⟩
      rw [decide_eq_false]
      · exact ⟨rfl, rfl⟩
      · intro e
        injection e with e
        omega
    · rintro b H' ⟨rfl, e0⟩
      subst H'
      refine iteF ?_
      obtain ⟨is, e1, ndi, e2⟩ := tb.idxs keyP_inj
      have li : is.length = kvs.length := by rw [e1, List.length_map]
      refine ⟨a, .dT kvs, ha, trivial, fun od => ?_⟩
      refine ⟨_, rfl, a, od, rfl, .inr ⟨kvs, upd_same, fun D hD => ?_⟩⟩
      have nDa : D ≠ a := fun e => by rw [e, upd_same] at hD; cases hD
      refine lc_true walk_keysT (by omega) hD (fun H' s => s _ _ upd_same) ?_ ?_
      · rintro n x H0 H1 R hn s1 ⟨rfl, kk, v, q, hk, rfl, hq⟩ kR
        have hn' : n < is.length := by omega
        have ek : kvs[n]? = some (keyP is[n], valW f is[n]) := by
          have e3 := congrArg (fun l : List (List Key × V) => l[n]?) e1
          simp only [List.getElem?_map, List.getElem?_eq_getElem hn'] at e3
          exact e3
        rw [hk] at ek
        have ek := Option.some.inj ek
        have mi := (e2 is[n]).mpr (List.getElem_mem hn')
        obtain ⟨⟨x, y⟩, exy⟩ : ∃ a, a = is[n] := ⟨_, rfl⟩
        rw [← exy] at ek mi
        obtain ⟨rfl, rfl⟩ : kk = keyP (x, y) ∧ v = valW f (x, y) := ⟨congrArg Prod.fst ek, congrArg Prod.snd ek⟩
        have hq' : H1 q = some (.tup [.str x, .str y]) := hq
        refine ⟨rfl, _, rfl, q, x, y, rfl, hq', kw.wd x mi.1, kw.wd y mi.2, fun H3 s3 => kR _ s3⟩
      · intro H1 s1 hD1
        refine ⟨s1 _ _ upd_same, ?_⟩
        have hD2 : (upd H1 a (.dT kvs)) D = some (.lst ((List.replicate kvs.length true).map V.bl)) := (upd_ne nDa).trans hD1
        refine ⟨D, _, rfl, SqL.of hD2, _, rfl, ?_⟩
        rw [all_true]
        refine iteF ?_
        have s2 : L2.Same H (upd H1 a (.dT kvs)) := fun b o e => by
          by_cases hb : b = a
          · rw [hb] at e ⊢
            rw [ha] at e
            rw [upd_same]; exact e
          · rw [upd_ne hb]
            exact s1 _ _ ((upd_ne hb).trans e)
        have ha2 := s2 _ _ ha
        generalize upd H1 a (.dT kvs) = G at s2 ha2 ⊢
        refine rd_words (f := f) (fun od R hh => ⟨_, rfl, hh⟩) ha2 tb kw (fun _ _ => rfl) (fun _ _ => rfl) fun l H2 s3 hl0 hl => ?_
        refine at_name (σ' := [some (.ref a), some (.ref l), none, none, none]) rfl ?_
        refine ⟨_, rfl, _, rfl, a, l, kvs, ws, f, rfl, s3 _ _ ha2, tb, kw, hl, fun H3 s4 => ⟨_, rfl, iteT ?_⟩⟩
        refine ⟨_, rfl, _, rfl, a, l, kvs, ws, f, rfl, s4 _ _ (s3 _ _ ha2), tb, kw, s4 _ _ hl, fun H5 s5 => k _ fun b o e => s5 _ _ (s4 _ _ (s3 _ _ (s2 _ _ e)))⟩
end
end KT
set_option Elab.async false
set_option linter.all false
set_option maxRecDepth 100000
set_option maxHeartbeats 4000000
namespace KT
open PySem L2 PyProof.Rows DTp TxS
theorem u0 {u : Nat} (h : u + 64 < cLine) : u < cLine := by omega
theorem k_tw : ¬ (("_table" : Str) = "_words") := by decide +kernel
def flds (d l : Addr) : List (Str × V) := putF "_words" (.ref l) (putF "_table" (.ref d) [])
theorem flds_t (d l : Addr) : (flds d l).lookup ("_table" : Str) = some (.ref d) := by
  unfold flds
  rw [lookup_putF, if_neg k_tw, lookup_putF, if_pos rfl]
theorem flds_w (d l : Addr) : (flds d l).lookup ("_words" : Str) = some (.ref l) := by
  unfold flds
  rw [lookup_putF, if_pos rfl]
theorem flds_no (d l : Addr) {m : Str} (h1 : ¬ m = "_words") (h2 : ¬ m = "_table") : (flds d l).lookup m = none := by
  unfold flds
  rw [lookup_putF, if_neg h1, lookup_putF, if_neg h2]
  all_goals rfl
/-- the Kinds of f over ws stands at p -/
structure KdIn (C : Addr) (H : Hp) (p dx d l : Addr) (ws : List Str) (f : Str → Str → Str) : Prop where
  ob : H p = some (.ins C dx (flds d l))
  dc : H d = some (.dT (tabW ws f))
  ls : H l = some (.lst (ws.map V.str))
  kw : KW ws f
def KdAt (C : Addr) (H : Hp) (p : Addr) (ws : List Str) (f : Str → Str → Str) : Prop := ∃ dx d l, KdIn C H p dx d l ws f
theorem KdAt.mono {C : Addr} {H H' : Hp} {p : Addr} {ws : List Str} {f : Str → Str → Str} (s : L2.Same H H') (h : KdAt C H p ws f) : KdAt C H' p ws f := let ⟨dx, d, l, k⟩ := h; ⟨dx, d, l, s _ _ k.ob, s _ _ k.dc, s _ _ k.ls, k.kw⟩
/-- what the walk asks of the class -/
structure KTx (K : PySem.W.Frag) (mg : Str → Option Value) (C : Addr) : Prop where
  cl : L2.Cls K C
  nT : NoAttr K C "_table"
  nW : NoAttr K C "_words"
  mgC : mg "Kinds" = some (.ref C)
  ha : PySem.W.findIn K (.ref C) "__class__" = some (some (.builtin "object.__class__"))
  hn : PySem.W.specialIn K (.builtin "object.__class__") "__get__" = some (some (.builtin "getset_descriptor.__get__"))
  htk : PySem.W.takesIn K (.builtin "object.__class__") = some true
  hm : PySem.W.mroIn K C (.type "object") = some true
  own : PySem.W.kitOne K (.ref C) (.ref C) = some true
theorem KTx.ty {K : PySem.W.Frag} {mg : Str → Option Value} {C p dx : Addr} {fs : List (Str × V)} {H : Hp} (T : KTx K mg C) (h : H p = some (.ins C dx fs)) : TyX K H (.ref p) (.ref C) := .base (.ins h T.cl T.ha T.hn T.htk T.hm)
/-- a method as its callers know it -/
structure Mee (P : Program) (w : World) (K : PySem.W.Frag) (mg : Str → Option Value) (base : Heap) (C : Addr) (k : Nat) (m : Str) (ps : List Str) (sp : Sp) : Prop where
  ex : ∃ (f : Addr) (fd : FuncData), Meth K C m f ∧ FnOk P w K mg base CX0 k f fd ps sp ∧ Binds K fd ps []
section
variable {X : Cx} {k j : Nat} {m : Str} {ps : List Str} {sp : Sp} {apos pos : Pos} {o e : Expr} {es : List Expr} {to : TE} {t : TA} {C : Addr}
theorem pe_m0 {pl : Sem Bool} (M : Mee X.prog X.w X.K X.mg X.base C k m ps sp) (c : L2.Cls X.K C) (hr : Room j X.A) (he : PE X o to) (hkj : k ≤ j := by decide)
    (ht : eval (.Call (.Attribute o m apos) [] [] pos) X.env = (do
      let ov ← eval o X.env
      standAt apos.atName
      let (f, first) ← holding [ov] (getMethod ov m pl)
      callWith pos f first (backTo pos (starEach [] X.env)) (backToKw pos (keywordEach [] X.env))) := by rfl) :
    PE X (.Call (.Attribute o m apos) [] [] pos) (tMeth C m sp [] E0 to tNil) := by
  obtain ⟨f, fd, h1, h2, h3⟩ := M.ex
  exact pe_meth0 he c h1 h2 (hr.mono hkj) h3 .nil pass0 ht
theorem pe_m {pl : Sem Bool} (M : Mee X.prog X.w X.K X.mg X.base C k m ps sp) (c : L2.Cls X.K C) (hr : Room j X.A) (he : PE X o to) (ha : PA X (e :: es) t) (hkj : k ≤ j := by decide)
    (hst : starEach (e :: es) X.env = (false, eval e X.env) :: starEach es X.env := by rfl) (hpl : (backTo pos (starEach es X.env)).any (·.1) = false := by rfl)
    (ht : eval (.Call (.Attribute o m apos) (e :: es) [] pos) X.env = (do
      let ov ← eval o X.env
      standAt apos.atName
      let (f, first) ← holding [ov] (getMethod ov m pl)
      callWith pos f first (backTo pos (starEach (e :: es) X.env)) (backToKw pos (keywordEach [] X.env))) := by rfl) :
    PE X (.Call (.Attribute o m apos) (e :: es) [] pos) (tMeth C m sp [] E0 to t) := by
  obtain ⟨f, fd, h1, h2, h3⟩ := M.ex
  exact pe_meth he c h1 h2 (hr.mono hkj) h3 .nil pass0 ha hst hpl ht
end
section
variable {P : Program} {w : World} {K : PySem.W.Frag} {mg : Str → Option Value} {base : Heap} {C : Addr}
def spKTable (C : Addr) : Sp := fun vs H Q _ => ∃ (p : Addr) (ws : List Str) (f : Str → Str → Str), vs = [.ref p] ∧ KdAt C H p ws f ∧ ∀ (q : Addr) (H' : Hp), L2.Same H H' → H q = none → H' q = some (.dT (tabW ws f)) → Q (.ref q) H'
abbrev nKTable : List Str := ["self", "pair"]
theorem scKTable : FnScope nKTable ["self"] (defScope kTable) := ⟨rfl, rfl, rfl, by decide +kernel, rfl, by decide +kernel, by decide +kernel⟩
theorem tabW_merge {ws : List Str} {f : Str → Str → Str} (n : ws.Nodup) : mergeT [] ((pairsW ws).map fun p => (keyP p, valW f p)) = tabW ws f := by
  rw [mergeT_nd _ _ (by rw [List.nil_append]; exact (tabW_tb (f := f) n).nd)]
  rfl
theorem pairs16 {ws : List Str} {f : Str → Str → Str} (kw : KW ws f) : (pairsW ws).length ≤ 16 := by
  rw [pairsW_len]
  exact Nat.le_trans (Nat.mul_le_mul kw.few kw.few) (by decide)
theorem ok_ktable {g : Addr} {fd : FuncData} (F : Fun K "table" "Kinds.table" kTable g fd) (T : KTx K mg C) : FnOk P w K mg base CX0 1 g fd ["self"] (spKTable C) := by
  refine F.ok scKTable (fun vs H Q E h => ?_) (fun cdv A outer s H vs Q E hr h => ?_)
  · obtain ⟨p, ws, f, rfl, _⟩ := h
    rfl
  · obtain ⟨p, ws, f, rfl, ⟨dx, d, l, kd⟩, k⟩ := h
    have nd := scKTable.nd
    refine ⟨_, pss_one (ps_ret (pe_lock (GC.pe_dcT (own := [("pair", 1)]) (g := gName 1) (tt := tYes) (tk := tVar 1) (tv := tDGet (tFld K (tVar 0) "_table") (tVar 1)) (u0 hr.units) rfl nd (pi_keys (pe_fld (pv 0) rfl))
      (blkOk_by (own := [("pair", 1)]) (N := nKTable) (sc := defScope kTable) (by decide +kernel)) (fun _ _ _ _ _ => pg_name (i := 1) nd rfl (Or.inl rfl)) (fun _ _ _ _ _ => pts_nil) GC.cl0 trivial (fun _ _ _ _ _ => pv 1)
      (fun _ _ _ _ _ => pe_dget (hu_of hr) (pe_fld (pv 0) rfl) (pv 1) (fun _ _ => rfl))))), ?_⟩
    have npd : p ≠ d := ne_of kd.ob kd.dc (by intro z; cases z)
    have nW := kd.kw.asc.nodup
    have tbd := tabW_tb (f := f) nW
    refine dc_keys (key := keyP) (key2 := keyP) (val := valW f) (val2 := valW f) (is := pairsW ws) (fun od R hh => ⟨_, rfl, p, C, dx, _, _, rfl, (upd_ne npd).trans kd.ob, T.cl, T.nT, flds_t _ _, hh⟩) kd.dc rfl (by have := pairs16 kd.kw; omega) ?_ ?_
    · rintro ⟨x, y⟩ q od H1 R Cn kc ha s1 hq kR
      obtain ⟨mx, my⟩ := mem_pairsW.mp ha
      have hp1 : H1 p = some (.ins C dx (flds d l)) := s1 _ _ ((upd_ne npd).trans kd.ob)
      have td : TabW H1 d ws f := ⟨_, .inr ⟨od, s1 _ _ upd_same⟩, tbd⟩
      refine at_name (σ' := [some (.ref p), some (.ref q)]) rfl ⟨rfl, kc _ _ ?_⟩
      exact ⟨_, rfl, _, rfl, p, C, dx, _, _, rfl, hp1, T.cl, T.nT, flds_t _ _, _, rfl, d, _, rfl, td.get mx my hq, kR q _ (fun _ _ e => e) hq⟩
    · intro q H1 s1 hq0 hq
      rw [tabW_merge nW] at hq
      exact k q H1 s1 hq0 hq
/-- words() -/
def spKWords (C : Addr) : Sp := fun vs H Q _ => ∃ (p : Addr) (ws : List Str) (f : Str → Str → Str), vs = [.ref p] ∧ KdAt C H p ws f ∧ ∀ (q : Addr) (H' : Hp), L2.Same H H' → H q = none → H' q = some (.lst (ws.map V.str)) → Q (.ref q) H'
theorem scKWords : FnScope ["self"] ["self"] (defScope kWords) := ⟨rfl, rfl, rfl, by decide +kernel, rfl, by decide +kernel, by decide +kernel⟩
theorem ok_kwords {g : Addr} {fd : FuncData} (F : Fun K "words" "Kinds.words" kWords g fd) (T : KTx K mg C) (Z : Blp mg) : FnOk P w K mg base CX0 1 g fd ["self"] (spKWords C) := by
  refine F.ok scKWords (fun vs H Q E h => ?_) (fun cdv A outer s H vs Q E hr h => ?_)
  · obtain ⟨p, ws, f, rfl, _⟩ := h
    rfl
  · obtain ⟨p, ws, f, rfl, ⟨dx, d, l, kd⟩, k⟩ := h
    refine ⟨_, pss_one (ps_ret (pe_callTy call_list_of (by rfl) Z.list (by decide +kernel) (pa_cons (pe_fld (pv 0) rfl) pa_nil))), ?_⟩
    exact ⟨_, rfl, p, C, dx, _, _, rfl, kd.ob, T.cl, T.nW, flds_w _ _, l, _, rfl, .inl (SqL.of kd.ls), fun q hq => k q _ (Same.new hq) hq upd_same⟩
def spIsKind (C : Addr) : Sp := fun vs H Q _ => ∃ (p : Addr) (ws : List Str) (f : Str → Str → Str) (x : Str), vs = [.ref p, .str x] ∧ KdAt C H p ws f ∧ x ∈ ws ∧ ∀ H', L2.Same H H' → Q (.bl true) H'
theorem scIsKind : FnScope ["kinds", "value"] ["kinds", "value"] (defScope pIsKind) := ⟨rfl, rfl, rfl, by decide +kernel, rfl, by decide +kernel, by decide +kernel⟩
theorem ok_isKind {g : Addr} {fd : FuncData} (F : Fun K "is_kind" "is_kind" pIsKind g fd) (T : KTx K mg C) (Z : Blp mg) (M : Mee P w K mg base C 1 "words" ["self"] (spKWords C)) : FnOk P w K mg base CX0 2 g fd ["kinds", "value"] (spIsKind C) := by
  refine F.ok scIsKind (fun vs H Q E h => ?_) (fun cdv A outer s H vs Q E hr h => ?_)
  · obtain ⟨p, ws, f, x, rfl, _⟩ := h
    rfl
  · obtain ⟨p, ws, f, x, rfl, kd, mx, k⟩ := h
    refine ⟨_, pss_one (ps_ret (pe_and (pe_callB call_isi (by rfl) Z.isi boot_isi (pa_cons (pv 1) (pa_cons (pe_bltn (v := .ty "str") (by rfl) Z.str (by decide +kernel) rfl) pa_nil)))
      (pe_one (pe_cmpR op_in_seq (pv 1) (pe_m0 M T.cl hr (pv 0)) (by rfl))))), ?_⟩
    refine ⟨_, rfl, _, _, _, _, true, rfl, .ty _, .base (.str _), kit_ty (by decide +kernel), _, rfl, iteT ?_⟩
    obtain ⟨dx, d, l, kd'⟩ := id kd
    refine ⟨_, rfl, _, rfl, p, dx, _, rfl, kd'.ob, flds_no _ _ (by decide +kernel) (by decide +kernel), p, ws, f, rfl, kd, fun q H1 s1 hq0 hq => ?_⟩
    refine ⟨q, _, rfl, .inl (SqL.of hq), rfl, flat_strs ws, ?_⟩
    rw [if_neg Bool.false_ne_true, inV_strs, decide_eq_true mx]
    exact k _ s1
def spCheckKind (C : Addr) : Sp := fun vs H Q _ => ∃ (p : Addr) (ws : List Str) (f : Str → Str → Str) (x : Str), vs = [.ref p, .str x] ∧ KdAt C H p ws f ∧ x ∈ ws ∧ ∀ H', L2.Same H H' → Q .non H'
theorem scCheckKind : FnScope ["kinds", "kind"] ["kinds", "kind"] (defScope pCheckKind) := ⟨rfl, rfl, rfl, by decide +kernel, rfl, by decide +kernel, by decide +kernel⟩
theorem ok_checkKind {g : Addr} {fd : FuncData} (F : Fun K "check_kind" "check_kind" pCheckKind g fd) (M : Cee P w K mg base 2 "is_kind" ["kinds", "value"] (spIsKind C)) : FnOk P w K mg base CX0 3 g fd ["kinds", "kind"] (spCheckKind C) := by
  refine F.ok scCheckKind (fun vs H Q E h => ?_) (fun cdv A outer s H vs Q E hr h => ?_)
  · obtain ⟨p, ws, f, x, rfl, _⟩ := h
    rfl
  · obtain ⟨p, ws, f, x, rfl, kd, mx, k⟩ := h
    refine ⟨_, pss_one (ps_if (pt_not (pt_val (pe_c M hr rfl (pa_cons (pv 0) (pa_cons (pv 1) pa_nil))))) (pss_one ps_never) pss_nil), ?_⟩
    exact ⟨_, rfl, _, rfl, p, ws, f, x, rfl, kd, mx, fun H1 s1 => ⟨_, rfl, iteF (k _ s1)⟩⟩
def spCheckKinds (C : Addr) : Sp := fun vs H Q _ => ∃ (p : Addr) (ws : List Str) (f : Str → Str → Str), vs = [.ref p] ∧ KdAt C H p ws f ∧ Q .non H
theorem scCheckKinds : FnScope ["kinds"] ["kinds"] (defScope pCheckKinds) := ⟨rfl, rfl, rfl, by decide +kernel, rfl, by decide +kernel, by decide +kernel⟩
theorem ok_checkKinds {g : Addr} {fd : FuncData} (F : Fun K "check_kinds" "check_kinds" pCheckKinds g fd) (T : KTx K mg C) (Z : Blp mg) : FnOk P w K mg base CX0 1 g fd ["kinds"] (spCheckKinds C) := by
  refine F.ok scCheckKinds (fun vs H Q E h => ?_) (fun cdv A outer s H vs Q E hr h => ?_)
  · obtain ⟨p, ws, f, rfl, _⟩ := h
    rfl
  · obtain ⟨p, ws, f, rfl, kd, k⟩ := h
    refine ⟨_, pss_one (ps_if (pt_not (pt_val (pe_callB call_isi (by rfl) Z.isi boot_isi (pa_cons (pv 0) (pa_cons (pe_glob (v := .ref C) rfl T.mgC rfl) pa_nil))))) (pss_one ps_never) pss_nil), ?_⟩
    obtain ⟨dx, d, l, kd'⟩ := id kd
    exact ⟨_, rfl, _, _, _, _, true, rfl, .own _, T.ty kd'.ob, T.own, _, rfl, iteF k⟩
def spKPut (C : Addr) : Sp := fun vs H Q _ => ∃ (p : Addr) (ws : List Str) (f : Str → Str → Str) (x y : Str), vs = [.ref p, .str x, .str y] ∧ KdAt C H p ws f ∧ x ∈ ws ∧ y ∈ ws ∧ ∀ H', L2.Same H H' → Q (.str (f x y)) H'
theorem scKPut : FnScope ["self", "one", "other"] ["self", "one", "other"] (defScope kPut) := ⟨rfl, rfl, rfl, by decide +kernel, rfl, by decide +kernel, by decide +kernel⟩
theorem ok_kput {g : Addr} {fd : FuncData} (F : Fun K "put" "Kinds.put" kPut g fd) (T : KTx K mg C) (M : Cee P w K mg base 3 "check_kind" ["kinds", "kind"] (spCheckKind C)) : FnOk P w K mg base CX0 4 g fd ["self", "one", "other"] (spKPut C) := by
  refine F.ok scKPut (fun vs H Q E h => ?_) (fun cdv A outer s H vs Q E hr h => ?_)
  · obtain ⟨p, ws, f, x, y, rfl, _⟩ := h
    rfl
  · obtain ⟨p, ws, f, x, y, rfl, kd, mx, my, k⟩ := h
    refine ⟨_, pss_cons (ps_expr (pe_c M hr rfl (pa_cons (pv 0) (pa_cons (pv 1) pa_nil))))
      (pss_cons (ps_expr (pe_c M hr rfl (pa_cons (pv 0) (pa_cons (pv 2) pa_nil))))
      (pss_one (ps_ret (pe_dget (hu_of hr) (pe_fld (pv 0) rfl) (pe_tup (pa_cons (pv 1) (pa_cons (pv 2) pa_nil))) (fun _ _ => rfl))))), ?_⟩
    refine ⟨_, rfl, _, rfl, p, ws, f, x, rfl, kd, mx, fun H1 s1 => ?_⟩
    refine ⟨_, rfl, _, rfl, p, ws, f, y, rfl, kd.mono s1, my, fun H2 s2 => ?_⟩
    obtain ⟨dx, d, l, kd'⟩ := (kd.mono s1).mono s2
    refine ⟨_, rfl, p, C, dx, _, _, rfl, kd'.ob, T.cl, T.nT, flds_t _ _, _, rfl, _, rfl, (by show 2 ≤ sizeLine; decide), fun t ht => ?_⟩
    have td : TabW H2 d ws f := ⟨_, .inl kd'.dc, tabW_tb kd'.kw.asc.nodup⟩
    exact ⟨d, _, rfl, (td.mono (Same.new ht)).get mx my upd_same, k _ fun b o e => Same.new ht _ _ (s2 _ _ (s1 _ _ e))⟩
end
end KT
set_option Elab.async false
set_option linter.all false
set_option maxRecDepth 100000
set_option maxHeartbeats 4000000
namespace KT
open PySem L2 PyProof.Rows DTp TxS
section
variable {P : Program} {w : World} {K : PySem.W.Frag} {mg : Str → Option Value} {base : Heap} {C : Addr}
def spKInit (C : Addr) : Sp := fun vs H Q _ => ∃ (p dx a : Addr) (kvs : List (List Key × V)) (ws : List Str) (f : Str → Str → Str), vs = [.ref p, .ref a] ∧ H p = some (.ins C dx []) ∧ H a = some (.dT kvs) ∧ TbG (SqW ws) keyP (valW f) kvs ∧ KW ws f ∧
  ∀ H' d l, KdIn C H' p dx d l ws f → H d = none → H l = none → (∀ b o, H b = some o → b ≠ p → H' b = some o) → Q .non H'
abbrev nKInit : List Str := ["self", "table", "pair", "one", "_"]
theorem scKInit : FnScope nKInit ["self", "table"] (defScope kInit) := ⟨rfl, rfl, rfl, by decide +kernel, rfl, by decide +kernel, by decide +kernel⟩
theorem ok_kinit {g : Addr} {fd : FuncData} (F : Fun K "__init__" "Kinds.__init__" kInit g fd) (T : KTx K mg C) (Z : Blp mg) (M : Cee P w K mg base 3 "_is_table" ["table"] spIsTable) : FnOk P w K mg base CX0 4 g fd ["self", "table"] (spKInit C) := by
  refine F.ok scKInit (fun vs H Q E h => ?_) (fun cdv A outer s H vs Q E hr h => ?_)
  · obtain ⟨p, dx, a, kvs, ws, f, rfl, _⟩ := h
    rfl
  · obtain ⟨p, dx, a, kvs, ws, f, rfl, hp, ha, tb, kw, k⟩ := h
    have nd := scKInit.nd
    refine ⟨_, pss_cons (ps_if (pt_not (pt_val (pe_c M hr rfl (pa_cons (pv 1) pa_nil)))) (pss_one ps_never) pss_nil)
      (pss_cons (ps_fld (pv 0) (GC.pe_dcT (own := [("pair", 2)]) (g := gName 2) (tt := tYes) (tk := tVar 2) (tv := tDGet (tVar 1) (tVar 2)) (u0 hr.units) rfl nd (pi_list (pe_callB (cr_sortT rfl hr.units) (by rfl) Z.sorted (by decide +kernel) (pa_cons (pv 1) pa_nil)))
        (blkOk_by (own := [("pair", 2)]) (N := nKInit) (sc := defScope kInit) (by decide +kernel)) (fun _ _ _ _ _ => pg_name (i := 2) nd rfl (Or.inl rfl)) (fun _ _ _ _ _ => pts_nil) GC.cl0 trivial (fun _ _ _ _ _ => pv 2)
        (fun _ _ _ _ _ => pe_dget (hu_of hr) (pv 1) (pv 2) (fun _ _ => rfl))) rfl)
      (pss_one (ps_fld (pv 0) (pe_callB (cr_sortX rfl) (by rfl) Z.sorted (by decide +kernel) (pa_cons (pe_lock
          (pe_scX (own := [("one", 3), ("_", 4)]) (g := gXY K 3 4) (tt := tYes) (te := tVar 3) rfl nd (pi_keys (pv 1)) (blkOk_by (own := [("one", 3), ("_", 4)]) (N := nKInit) (sc := defScope kInit) (by decide +kernel))
            (fun _ _ _ _ _ => pg_tup rfl (pgs_cons (pg_name (i := 3) nd rfl (Or.inl rfl)) (pgs_cons (pg_name (i := 4) nd rfl (Or.inl rfl)) pgs_nil))) (fun _ _ _ _ _ => pts_nil) GC.cl0 trivial (fun _ _ _ _ _ => pv 3))) pa_nil)) rfl))), ?_⟩
    have nW := kw.asc.nodup
    have npa : p ≠ a := ne_of hp ha (by intro z; cases z)
    refine ⟨_, rfl, a, kvs, ws, f, rfl, ha, tb, kw, fun H1 s1 => ⟨_, rfl, iteF ?_⟩⟩
    obtain ⟨ps, f1, f2, f3, f4⟩ := sorted_keys tb nW kw.asc (.refl ws)
    have l16 := pairs16 kw
    have lps : ps.length ≤ 16 := by
      rw [f2, tbW_len tb nW]
      exact Nat.le_trans (Nat.mul_le_mul kw.few kw.few) (by decide)
    have ha1 := s1 _ _ ha
    dsimp only [tNext, tSeq, sFld]
    refine dc_list (K := K) (tl := tCB DTp.rSortT (tCons (tVar 1) tNil)) (tk := tVar 2) (tv := tDGet (tVar 1) (tVar 2)) (g := gName 2) (key2 := keyP) (val2 := valW f) (is := pairsW ws) (fun H' => L2.Same H1 H') (by omega) ?_ ?_
    · intro R hR
      refine ⟨_, rfl, a, kvs, ps, rfl, .inl ha1, f1, by omega, fun qs l h1 h2 h3 hl => ?_⟩
      have s2 := Same.new (H := H1) (o := .lst (qs.map fun q => V.ref q.1)) hl
      refine hR l qs _ (f4 _ h1 h2) upd_same s2 ?_
      intro m q H3 R2 Cn kc hq s3 kR
      have hq3 : H3 q.1 = some (.tup ((keyP q.2).map kV)) := s3 _ _ (s2 _ _ (h3 q (List.mem_of_getElem? hq)))
      have hq2 : q.2.1 ∈ ws ∧ q.2.2 ∈ ws := by
        have : q.2 ∈ qs.map (·.2) := List.mem_map.mpr ⟨q, List.mem_of_getElem? hq, rfl⟩
        rw [f4 _ h1 h2, mem_pairsW] at this
        exact this
      have td : TabW H3 a ws f := ⟨_, .inl (s3 _ _ (s2 _ _ ha1)), tb⟩
      refine at_name (σ' := [some (.ref p), some (.ref a), some (.ref q.1), none, none]) rfl ⟨rfl, kc _ _ ?_⟩
      exact ⟨_, rfl, _, rfl, _, rfl, a, _, rfl, td.get hq2.1 hq2.2 hq3, kR q.1 _ (fun _ _ e => e) hq3⟩
    · intro d H2 H3 s2 s3 hd0 hd
      rw [tabW_merge nW] at hd
      have s13 : L2.Same H1 H3 := fun b o e => s3 _ _ (s2 _ _ e)
      have s03 : L2.Same H H3 := fun b o e => s13 _ _ (s1 _ _ e)
      have s02 : L2.Same H H2 := fun b o e => s2 _ _ (s1 _ _ e)
      have hdH : H d = none := s02.free hd0
      have npd : p ≠ d := ne_of_none hp hdH
      have nad : a ≠ d := ne_of_none ha hdH
      refine ⟨_, rfl, p, C, dx, [], rfl, s03 _ _ hp, T.cl, T.nT, (by show 0 < 1000; decide), ?_⟩
      have ha4 : upd H3 p (.ins C dx (putF "_table" (.ref d) [])) a = some (.dT kvs) := (upd_ne npa.symm).trans (s03 _ _ ha)
      have hp4 : upd H3 p (.ins C dx (putF "_table" (.ref d) [])) p = some (.ins C dx (putF "_table" (.ref d) [])) := upd_same
      have hd4 : upd H3 p (.ins C dx (putF "_table" (.ref d) [])) d = some (.dT (tabW ws f)) := (upd_ne npd.symm).trans hd
      have st4 : ∀ b o, H b = some o → b ≠ p → upd H3 p (.ins C dx (putF "_table" (.ref d) [])) b = some o := fun b o e ne => (upd_ne ne).trans (s03 _ _ e)
      generalize upd H3 p (.ins C dx (putF "_table" (.ref d) [])) = G at ha4 hp4 hd4 st4 ⊢
      refine rd_words (f := f) (fun od R hh => ⟨_, rfl, hh⟩) ha4 tb kw (fun _ _ => rfl) (fun _ _ => rfl) fun l H5 s5 hl0 hl => ?_
      have npl : p ≠ l := ne_of_none hp4 hl0
      have ndl : d ≠ l := ne_of_none hd4 hl0
      refine ⟨_, rfl, p, C, dx, _, rfl, s5 _ _ hp4, T.cl, T.nW, (by show 1 < 1000; decide), ?_⟩
      have hlH : H l = none := by
        cases e : H l with
        | none => rfl
        | some o =>
          have := st4 l o e npl.symm
          rw [hl0] at this
          cases this
      refine k _ d l ⟨upd_same, (upd_ne npd.symm).trans (s5 _ _ hd4), (upd_ne npl.symm).trans hl, kw⟩ hdH hlH fun b o e ne => ?_
      rw [upd_ne ne]
      exact s5 _ _ (st4 b o e ne)
/-- a == b, b Kinds or anything else -/
def spKEq (K : PySem.W.Frag) (C : Addr) : Sp := fun vs H Q _ => ∃ (p : Addr) (y : V) (ws : List Str) (f : Str → Str → Str), vs = [.ref p, y] ∧ KdAt C H p ws f ∧
  ((∃ (q : Addr) (ws2 : List Str) (f2 : Str → Str → Str), y = .ref q ∧ KdAt C H q ws2 f2 ∧ Q (.bl (sameT (tabW ws f) (tabW ws2 f2))) H) ∨ ∃ t, TyX K H y t ∧ PySem.W.kitOne K t (.ref C) = some false ∧ Q (.bl false) H)
theorem tabW_txt (ws : List Str) (f : Str → Str → Str) : TxV (tabW ws f) := fun p hp => by
  obtain ⟨q, _, rfl⟩ := List.mem_map.mp hp
  exact ⟨_, rfl⟩
theorem scKEq : FnScope ["self", "other"] ["self", "other"] (defScope kEq) := ⟨rfl, rfl, rfl, by decide +kernel, rfl, by decide +kernel, by decide +kernel⟩
theorem ok_keq {g : Addr} {fd : FuncData} (F : Fun K "__eq__" "Kinds.__eq__" kEq g fd) (T : KTx K mg C) (Z : Blp mg) : FnOk P w K mg base CX0 1 g fd ["self", "other"] (spKEq K C) := by
  refine F.ok scKEq (fun vs H Q E h => ?_) (fun cdv A outer s H vs Q E hr h => ?_)
  · obtain ⟨p, y, ws, f, rfl, _⟩ := h
    rfl
  · obtain ⟨p, y, ws, f, rfl, ⟨dx, d, l, kd⟩, h⟩ := h
    refine ⟨_, pss_one (ps_ret (pe_and (pe_callB call_isi (by rfl) Z.isi boot_isi (pa_cons (pv 1) (pa_cons (pe_glob (v := .ref C) rfl T.mgC rfl) pa_nil)))
      (pe_one (pe_cmpR (op_eqT (hu_of hr)) (pe_fld (pv 0) rfl) (pe_fld (pv 1) rfl) (nomark _))))), ?_⟩
    rcases h with ⟨q, ws2, f2, rfl, ⟨dx2, d2, l2, kd2⟩, k⟩ | ⟨t, ty, kt, k⟩
    · refine ⟨_, rfl, _, _, _, _, true, rfl, .own _, T.ty kd2.ob, T.own, _, rfl, iteT ?_⟩
      exact ⟨_, rfl, p, C, dx, _, _, rfl, kd.ob, T.cl, T.nT, flds_t _ _, _, rfl, q, C, dx2, _, _, rfl, kd2.ob, T.cl, T.nT, flds_t _ _, d, d2, _, _, rfl, rfl, .inl kd.dc, .inl kd2.dc, tabW_txt _ _, tabW_txt _ _, k⟩
    · exact ⟨_, rfl, _, _, _, _, false, rfl, .own _, ty, kt, _, rfl, iteF k⟩
end
end KT
set_option Elab.async false
set_option linter.all false
set_option maxRecDepth 100000
set_option maxHeartbeats 4000000
namespace KT
open PySem L2
def pw (f : Str → Str → Str) (x : Str) : Nat → Str
  | 0 => x
  | n + 1 => f (pw f x n) x
section
variable {ws : List Str} {f : Str → Str → Str} {x : Str}
theorem pw_mem (k : KW ws f) (hx : x ∈ ws) : ∀ n, pw f x n ∈ ws
  | 0 => hx
  | n + 1 => k.cl _ _ (pw_mem k hx n) hx
theorem pw_mul (k : KW ws f) (hx : x ∈ ws) (i : Nat) : ∀ j, f (pw f x i) (pw f x j) = pw f x (i + j + 1)
  | 0 => rfl
  | j + 1 => by
    show f (pw f x i) (f (pw f x j) x) = f (pw f x (i + j + 1)) x
    rw [← k.as _ _ _ (pw_mem k hx i) (pw_mem k hx j) hx, pw_mul k hx i j]
/-- L different powers, then the one at a again -/
structure Pws (f : Str → Str → Str) (x : Str) (L a : Nat) : Prop where
  lt : a < L
  l4 : L ≤ 4
  eq : pw f x L = pw f x a
  dis : ∀ i j, i < j → j < L → pw f x i ≠ pw f x j
theorem Pws.per {L a : Nat} (h : Pws f x L a) : ∀ n, pw f x (a + n + (L - a)) = pw f x (a + n)
  | 0 => by
    have e : a + 0 + (L - a) = L := by have := h.lt; omega
    rw [e]; exact h.eq
  | n + 1 => by
    have e : a + (n + 1) + (L - a) = (a + n + (L - a)) + 1 := by omega
    rw [e]
    show f (pw f x (a + n + (L - a))) x = f (pw f x (a + n)) x
    rw [h.per n]
theorem Pws.mul {L a : Nat} (h : Pws f x L a) (n : Nat) : ∀ m, pw f x (a + n + m * (L - a)) = pw f x (a + n)
  | 0 => by rw [Nat.zero_mul, Nat.add_zero]
  | m + 1 => by
    have e : a + n + (m + 1) * (L - a) = a + (n + m * (L - a)) + (L - a) := by rw [Nat.succ_mul]; omega
    rw [e, h.per, ← Nat.add_assoc, h.mul n m]
theorem Pws.red {L a n : Nat} (h : Pws f x L a) (hn : a ≤ n) : pw f x n = pw f x (a + (n - a) % (L - a)) := by
  have e : n = a + (n - a) % (L - a) + (n - a) / (L - a) * (L - a) := by
    have := Nat.mod_add_div (n - a) (L - a)
    rw [Nat.mul_comm] at this
    omega
  have m := h.mul ((n - a) % (L - a)) ((n - a) / (L - a))
  rw [← e] at m
  exact m
theorem Pws.modlt {L a n : Nat} (h : Pws f x L a) : a + (n - a) % (L - a) < L := by
  have := Nat.mod_lt (n - a) (show 0 < L - a by have := h.lt; omega)
  omega
/-- equal powers below L -/
theorem Pws.inj {L a i j : Nat} (h : Pws f x L a) (hi : i < L) (hj : j < L) (e : pw f x i = pw f x j) : i = j := by
  rcases Nat.lt_trichotomy i j with z | z | z
  · exact absurd e (h.dis i j z hj)
  · exact z
  · exact absurd e.symm (h.dis j i z hi)
/-- which powers are equal -/
theorem Pws.iff {L a i j : Nat} (h : Pws f x L a) (hij : i < j) : pw f x i = pw f x j ↔ a ≤ i ∧ (j - i) % (L - a) = 0 := by
  have r0 : 0 < L - a := by have := h.lt; omega
  constructor
  · intro e
    by_cases hi : a ≤ i
    · refine ⟨hi, ?_⟩
      rw [h.red hi, h.red (show a ≤ j by omega)] at e
      have := h.inj h.modlt h.modlt e
      have q : (i - a) % (L - a) = (j - a) % (L - a) := by omega
      have e2 : j - a = (i - a) + (j - i) := by omega
      rw [e2] at q
      have := Nat.sub_mod_eq_zero_of_mod_eq q.symm
      have e3 : i - a + (j - i) - (i - a) = j - i := by omega
      rw [e3] at this
      exact this
    · exfalso
      have hiL : i < L := by have := h.lt; omega
      by_cases hj : j < L
      · exact h.dis i j hij hj e
      · rw [h.red (show a ≤ j by have := h.lt; omega)] at e
        have := h.inj hiL h.modlt e
        omega
  · rintro ⟨hi, hm⟩
    have e : j = a + (i - a) + (j - i) / (L - a) * (L - a) := by
      have := Nat.mod_add_div (j - i) (L - a)
      rw [hm, Nat.zero_add, Nat.mul_comm] at this
      omega
    have m := h.mul (i - a) ((j - i) / (L - a))
    rw [← e] at m
    rw [m]
    have : a + (i - a) = i := by omega
    rw [this]
/-- one of the powers is its own square -/
theorem Pws.idem {L a : Nat} (k : KW ws f) (hx : x ∈ ws) (h : Pws f x L a) : ∃ i, i < L ∧ f (pw f x i) (pw f x i) = pw f x i := by
  have hlt := h.lt
  have r0 : 0 < L - a := by omega
  refine ⟨a + ((L - a) - 1 - a % (L - a)), ?_, ?_⟩
  · have := Nat.mod_lt a r0
    omega
  · rw [pw_mul k hx]
    have ml := Nat.mod_lt a r0
    refine ((h.iff (i := a + ((L - a) - 1 - a % (L - a))) (by omega)).mpr ⟨by omega, ?_⟩).symm
    have e : a + (L - a - 1 - a % (L - a)) + (a + (L - a - 1 - a % (L - a))) + 1 - (a + (L - a - 1 - a % (L - a))) = (L - a) + (L - a) * (a / (L - a)) := by
      have := Nat.mod_add_div a (L - a)
      omega
    rw [e, Nat.add_mul_mod_self_left, Nat.mod_self]
/-- the least such -/
def Least (p : Nat → Prop) (m : Nat) : Prop := p m ∧ ∀ i, i < m → ¬ p i
theorem least_of {p : Nat → Prop} [DecidablePred p] : ∀ n, p n → ∃ m, m ≤ n ∧ Least p m := by
  intro n
  induction n using Nat.strongRecOn with
  | ind n ih =>
    intro hn
    by_cases h : ∃ i, i < n ∧ p i
    · obtain ⟨i, hi, pi⟩ := h
      obtain ⟨m, hm, l⟩ := ih i hi pi
      exact ⟨m, by omega, l⟩
    · exact ⟨n, Nat.le_refl _, hn, fun i hi pi => h ⟨i, hi, pi⟩⟩
theorem Least.uniq {p : Nat → Prop} {m n : Nat} (h : Least p m) (k : Least p n) : m = n := by
  rcases Nat.lt_trichotomy m n with z | z | z
  · exact absurd h.1 (k.2 m z)
  · exact z
  · exact absurd k.1 (h.2 n z)
end
end KT
set_option Elab.async false
set_option linter.all false
set_option maxRecDepth 100000
set_option maxHeartbeats 4000000
namespace KT
open PySem L2 PyProof.Rows DTp TxS
section
variable {P : Program} {w : World} {K : PySem.W.Frag} {mg : Str → Option Value} {base : Heap} {C : Addr}
/-- making Kinds -/
structure KMk (P : Program) (w : World) (K : PySem.W.Frag) (mg : Str → Option Value) (base : Heap) (C : Addr) : Prop where
  ex : ∃ (f : Addr) (fd : FuncData), Mk K C f ∧ FnOk P w K mg base CX0 4 f fd ["self", "table"] (spKInit C) ∧ Binds K fd ["self", "table"] []
section
variable {X : Cx} {j : Nat} {p pos : Pos} {e : Expr} {es : List Expr} {t : TA}
theorem pe_kinds (M : KMk X.prog X.w X.K X.mg X.base C) (hm : X.mg "Kinds" = some (.ref C)) (hr : Room j X.A) (hg : Gl X "Kinds") (ha : PA X (e :: es) t) (hkj : 5 ≤ j := by decide)
    (he : starEach (e :: es) X.env = (false, eval e X.env) :: starEach es X.env := by rfl) (hpl : (backTo pos (starEach es X.env)).any (·.1) = false := by rfl) :
    PE X (.Call (.Name "Kinds" p) (e :: es) [] pos) (tMake C (spKInit C) [] E0 t) := by
  obtain ⟨f, fd, h1, h2, h3⟩ := M.ex
  exact pe_make h1 h2 (hr.mono hkj) hg hm h3 .nil pass0 ha (by decide) he hpl
end
/-- the Kinds at x, all of it new since H -/
def KdNew (C : Addr) (H H' : Hp) (x : Addr) (ws : List Str) (f : Str → Str → Str) : Prop := ∃ dx d l, KdIn C H' x dx d l ws f ∧ H x = none ∧ H dx = none ∧ H d = none ∧ H l = none
theorem KdNew.at {C : Addr} {H H' : Hp} {x : Addr} {ws : List Str} {f : Str → Str → Str} (h : KdNew C H H' x ws f) : KdAt C H' x ws f := let ⟨dx, d, l, k, _⟩ := h; ⟨dx, d, l, k⟩
theorem mk_kinds {H : Hp} {Q : VK} {a : Addr} {kvs : List (List Key × V)} {ws : List Str} {f : Str → Str → Str} (ha : H a = some (.dT kvs)) (tb : TbG (SqW ws) keyP (valW f) kvs) (kw : KW ws f)
    (k : ∀ x H', KdNew C H H' x ws f → L2.Same H H' → Q (.ref x) H') : ∀ x dx, H x = none → H dx = none → dx ≠ x → spKInit C (.ref x :: ([.ref a] ++ [])) (upd (upd H dx (.own x)) x (.ins C dx [])) (fun v H2 => v = .non ∧ Q (.ref x) H2) E0 := by
  intro x dx hx hdx ne
  have n1 : a ≠ x := ne_of_none ha hx
  have n2 : a ≠ dx := ne_of_none ha hdx
  have free : ∀ z : Addr, upd (upd H dx (.own x)) x (.ins C dx []) z = none → H z = none := fun z hz => by
    by_cases e1 : z = x
    · rw [e1]; exact hx
    · rw [upd_ne e1] at hz
      by_cases e2 : z = dx
      · rw [e2]; exact hdx
      · rw [upd_ne e2] at hz
        exact hz
  refine ⟨x, dx, a, kvs, ws, f, rfl, upd_same, (upd_ne n1).trans ((upd_ne n2).trans ha), tb, kw, fun H' d l kd hd hl st => ⟨rfl, k x H' ⟨dx, d, l, kd, hx, hdx, free d hd, free l hl⟩ fun b o e => ?_⟩⟩
  have b1 : b ≠ x := ne_of_none e hx
  exact st b o ((upd_ne b1).trans ((upd_ne (ne_of_none e hdx)).trans e)) b1
def spIsKinds (C : Addr) : Sp := fun vs H Q _ => ∃ (p r : Addr) (ws : List Str) (f : Str → Str → Str) (row : List Str), vs = [.ref p, .ref r] ∧ KdAt C H p ws f ∧ H r = some (.lst (row.map V.str)) ∧ row.length ≤ 1000 ∧ (∀ x ∈ row, x ∈ ws) ∧ ∀ H', L2.Same H H' → Q (.bl true) H'
abbrev nIsKinds : List Str := ["kinds", "value", "kind"]
theorem scIsKinds : FnScope nIsKinds ["kinds", "value"] (defScope pIsKinds) := ⟨rfl, rfl, rfl, by decide +kernel, rfl, by decide +kernel, by decide +kernel⟩
theorem ok_isKinds {g : Addr} {fd : FuncData} (F : Fun K "is_list_of_kinds" "is_list_of_kinds" pIsKinds g fd) (Z : Blp mg) (M : Cee P w K mg base 2 "is_kind" ["kinds", "value"] (spIsKind C)) : FnOk P w K mg base CX0 3 g fd ["kinds", "value"] (spIsKinds C) := by
  refine F.ok scIsKinds (fun vs H Q E h => ?_) (fun cdv A outer s H vs Q E hr h => ?_)
  · obtain ⟨p, r, ws, f, row, rfl, _⟩ := h
    rfl
  · obtain ⟨p, r, ws, f, row, rfl, kd, hrow, few, mr, k⟩ := h
    have nd := scIsKinds.nd
    refine ⟨_, pss_one (ps_ret (pe_and (pe_callB call_isi (by rfl) Z.isi boot_isi (pa_cons (pv 1) (pa_cons (pe_bltn (v := .ty "list") (by rfl) Z.list (by decide +kernel) rfl) pa_nil)))
      (pe_one (pe_callB (cr_all rfl) (by rfl) Z.all (by decide +kernel) (pa_cons
        (pe_lc (own := [("kind", 2)]) (g := gName 2) (tt := tYes) (te := tCall (spIsKind C) [] E0 (tCons (tVar 0) (tCons (tVar 2) tNil))) rfl nd (pi_list (pv 1)) (blkOk_by (own := [("kind", 2)]) (N := nIsKinds) (sc := defScope pIsKinds) (by decide +kernel))
            (fun _ _ _ _ _ => pg_name (i := 2) nd rfl (Or.inl rfl)) (fun _ _ _ _ _ => pts_nil) (fun _ _ _ _ _ => pe_c M hr rfl (pa_cons (pv 0) (pa_cons (pv 2) pa_nil)))) pa_nil))))), ?_⟩
    refine ⟨_, rfl, _, _, _, _, true, rfl, .ty _, .base (.lst hrow), kit_ty (by decide +kernel), _, rfl, iteT ?_⟩
    refine ⟨_, rfl, r, rfl, ⟨_, SqL.of hrow⟩, fun D hD => ?_⟩
    refine lc_true (walk_list (K := K) (a := r) (xs := row.map V.str)) (by rw [List.length_map]; omega) hD (fun H' s => SqL.of (s _ _ hrow)) ?_ ?_
    · rintro i v H0 H1 R hi s1 ⟨rfl, hx⟩ kR
      obtain ⟨x, ex, rfl⟩ := str_get hx
      exact ⟨rfl, _, rfl, _, rfl, p, ws, f, x, rfl, kd.mono s1, mr x (List.mem_of_getElem? ex), kR⟩
    · intro H1 s1 hD1
      refine ⟨D, _, rfl, SqL.of hD1, ?_⟩
      rw [all_true]
      exact k _ s1
structure PutC (P : Program) (w : World) (K : PySem.W.Frag) (mg : Str → Option Value) (base : Heap) (C : Addr) : Prop where
  isk : Cee P w K mg base 3 "is_list_of_kinds" ["kinds", "value"] (spIsKinds C)
  chk : Cee P w K mg base 1 "check_kinds" ["kinds"] (spCheckKinds C)
  chd : Cee P w K mg base 3 "check_kind" ["kinds", "kind"] (spCheckKind C)
  cnt : Cee P w K mg base 2 "check_count" ["number", "least"] spCheckCount
  tab : Mee P w K mg base C 1 "table" ["self"] (spKTable C)
  wor : Mee P w K mg base C 1 "words" ["self"] (spKWords C)
  put : Mee P w K mg base C 4 "put" ["self", "one", "other"] (spKPut C)
theorem foldl_mem {ws : List Str} {f : Str → Str → Str} (kw : KW ws f) : ∀ (row : List Str) (x : Str), x ∈ ws → (∀ y ∈ row, y ∈ ws) → row.foldl f x ∈ ws
  | [], x, hx, _ => hx
  | y :: row, x, hx, h => foldl_mem kw row (f x y) (kw.cl _ _ hx (h y List.mem_cons_self)) fun z hz => h z (List.mem_cons_of_mem _ hz)
end
end KT
set_option Elab.async false
set_option linter.all false
set_option maxRecDepth 100000
set_option maxHeartbeats 4000000
namespace KT
open PySem L2 PyProof.Rows DTp TxS
section
variable {P : Program} {w : World} {K : PySem.W.Frag} {mg : Str → Option Value} {base : Heap} {C : Addr}
theorem KW.turn {ws : List Str} {f : Str → Str → Str} (k : KW ws f) : KW ws fun x y => f y x := ⟨k.asc, k.pos, k.few, k.wd, fun x y hx hy => k.cl y x hy hx, fun x y z hx hy hz => (k.as z y x hz hy hx).symm⟩
def sqs (ws : List Str) (f : Str → Str → Str) : List Str := ws.filter fun x => decide (f x x = x)
def spOwnSq (C : Addr) : Sp := fun vs H Q _ => ∃ (p : Addr) (ws : List Str) (f : Str → Str → Str), vs = [.ref p] ∧ KdAt C H p ws f ∧ ∀ (q : Addr) (H' : Hp), L2.Same H H' → H q = none → H' q = some (.lst ((sqs ws f).map V.str)) → Q (.ref q) H'
abbrev nOwnSq : List Str := ["kinds", "kind"]
theorem scOwnSq : FnScope nOwnSq ["kinds"] (defScope pOwnSquares) := ⟨rfl, rfl, rfl, by decide +kernel, rfl, by decide +kernel, by decide +kernel⟩
theorem ok_ownSq {g : Addr} {fd : FuncData} (F : Fun K "own_squares" "own_squares" pOwnSquares g fd) (T : KTx K mg C) (M : PutC P w K mg base C) : FnOk P w K mg base CX0 5 g fd ["kinds"] (spOwnSq C) := by
  refine F.ok scOwnSq (fun vs H Q E h => ?_) (fun cdv A outer s H vs Q E hr h => ?_)
  · obtain ⟨p, ws, f, rfl, _⟩ := h
    rfl
  · obtain ⟨p, ws, f, rfl, kd, k⟩ := h
    have nd := scOwnSq.nd
    refine ⟨_, pss_cons (ps_expr (pe_c M.chk hr rfl (pa_cons (pv 0) pa_nil)))
      (pss_one (ps_ret (pe_lc (own := [("kind", 1)]) (g := gName 1) (tt := tTest (tOp rEq (tMeth C "put" (spKPut C) [] E0 (tVar 0) (tCons (tVar 1) (tCons (tVar 1) tNil))) (tVar 1))) (te := tVar 1) rfl nd (pi_list (pe_m0 M.wor T.cl hr (pv 0)))
        (blkOk_by (own := [("kind", 1)]) (N := nOwnSq) (sc := defScope pOwnSquares) (by decide +kernel)) (fun _ _ _ _ _ => pg_name (i := 1) nd rfl (Or.inl rfl)) (fun _ _ _ _ _ => pts_one (pt_cmpR op_eq (pe_m M.put T.cl hr (pv 0) (pa_cons (pv 1) (pa_cons (pv 1) pa_nil))) (pv 1) (nomark _))) (fun _ _ _ _ _ => pv 1)))), ?_⟩
    obtain ⟨dx, d, l, kd1⟩ := id kd
    have kw := kd1.kw
    refine ⟨_, rfl, p, ws, f, rfl, kd, ?_⟩
    refine ⟨_, rfl, p, dx, _, rfl, kd1.ob, flds_no _ _ (by decide +kernel) (by decide +kernel), p, ws, f, rfl, kd, fun q H1 s1 hq0 hq => ?_⟩
    refine ⟨q, rfl, ⟨_, SqL.of hq⟩, fun D hD => ?_⟩
    refine lc_it (walk_list (K := K) (a := q) (xs := ws.map V.str)) (fun i H' => L2.Same H1 H' ∧ H' D = some (.lst (((ws.take i).filter fun x => decide (f x x = x)).map V.str))) ?_ ?_ ?_ ?_
    · exact ⟨Same.new hD, upd_same⟩
    · rintro i H2 _ ⟨s2, _⟩
      exact SqL.of (s2 _ _ hq)
    · rintro i v H0 H2 hi ⟨s2, hD2⟩ ⟨rfl, hv⟩
      obtain ⟨x, ex, rfl⟩ := str_get hv
      have mx : x ∈ ws := List.mem_of_getElem? ex
      have kd2 : KdIn C H2 p dx d l ws f := ⟨s2 _ _ (s1 _ _ kd1.ob), s2 _ _ (s1 _ _ kd1.dc), s2 _ _ (s1 _ _ kd1.ls), kw⟩
      refine at_name (σ' := [some (.ref p), some (.str x)]) rfl ⟨rfl, ?_⟩
      refine ⟨_, rfl, p, dx, _, rfl, kd2.ob, flds_no _ _ (by decide +kernel) (by decide +kernel), _, rfl, _, rfl, p, ws, f, x, x, rfl, ⟨dx, d, l, kd2⟩, mx, mx, fun H3 s3 => ?_⟩
      refine ⟨_, rfl, rfl, _, rfl, ?_⟩
      have hD3 := s3 _ _ hD2
      have lenb : ((ws.take i).filter fun x => decide (f x x = x)).length ≤ 4 := Nat.le_trans (List.length_filter_le _ _) (by rw [List.length_take]; have := kw.few; omega)
      have dq : decide (V.str (f x x) = V.str x) = decide (f x x = x) := by
        by_cases z : f x x = x
        · rw [z]; simp
        · rw [decide_eq_false z, decide_eq_false]
          intro e
          injection e with e
          exact z e
      rw [dq, take_next' ex, List.filter_append]
      refine ite2 (fun hsq => ?_) (fun hsq => ?_)
      · refine ⟨_, rfl, _, hD3, ?_, fun c o e => ?_, ?_⟩
        · rw [List.length_map]
          exact small1000 (by omega)
        · rw [upd_ne (ne_of_none e hD)]
          exact s3 _ _ (s2 _ _ e)
        · have e1 : List.filter (fun x => decide (f x x = x)) [x] = [x] := List.filter_cons_of_pos (p := fun x => decide (f x x = x)) (l := []) hsq
          rw [e1, List.map_append]
          exact upd_same
      · have e1 : List.filter (fun x => decide (f x x = x)) [x] = [] := List.filter_cons_of_neg (p := fun x => decide (f x x = x)) (l := []) hsq
        rw [e1, List.append_nil]
        exact ⟨fun c o e => s3 _ _ (s2 _ _ e), hD3⟩
    · rintro H2 ⟨s2, hD2⟩
      rw [List.length_map, List.take_length] at hD2
      exact k D H2 (fun c o e => s2 _ _ (s1 _ _ e)) (s1.free hD) hD2
end
end KT
set_option Elab.async false
set_option linter.all false
set_option maxRecDepth 100000
set_option maxHeartbeats 4000000
namespace KT
open PySem L2 PyProof.Rows DTp TxS
def Flat2 (v w : V) : Prop := (∃ x, v = .str x ∧ w = .str x) ∨ (∃ i, v = .int i ∧ w = .int i) ∨ (∃ b, v = .bl b ∧ w = .bl b) ∨ (v = .non ∧ w = .non)
/-- both are read as the same, at most n deep -/
def Alike : Nat → Hp → V → V → Prop
  | 0, _, _, _ => False
  | n + 1, H, v, w => Flat2 v w ∨ (∃ (a b : Addr) (xs ys : List V), v = .ref a ∧ w = .ref b ∧ H a = some (.lst xs) ∧ H b = some (.lst ys) ∧ xs.length ≤ 100 ∧ Paired (Alike n H) xs ys) ∨
    (∃ (a b : Addr) (xs ys : List V), v = .ref a ∧ w = .ref b ∧ H a = some (.tup xs) ∧ H b = some (.tup ys) ∧ xs.length ≤ 100 ∧ Paired (Alike n H) xs ys) ∨
    (∃ (a b : Addr) (ps : List (Str × Str)) (f : Str → Str → Str), 3 ≤ n ∧ v = .ref a ∧ w = .ref b ∧ H a = some (.dT (ps.map fun p => (keyP p, valW f p))) ∧ H b = some (.dT (ps.map fun p => (keyP p, valW f p))) ∧ ps.Nodup ∧ ps.length ≤ 100) ∨
    ∃ (a b : Addr) (kvs : List (Key × V)) (ks : List Str), 2 ≤ n ∧ v = .ref a ∧ w = .ref b ∧ H a = some (.dK kvs) ∧ H b = some (.dK kvs) ∧ kvs.map (·.1) = ks.map Sum.inr ∧ ks.Nodup ∧ (∀ p ∈ kvs, Flat2 p.2 p.2) ∧ ks.length ≤ 100
theorem Alike.mono {H H' : Hp} (s : L2.Same H H') : ∀ {n : Nat} {v w : V}, Alike n H v w → Alike n H' v w
  | 0, _, _, h => h
  | n + 1, _, _, h => by
    rcases h with h | ⟨a, b, xs, ys, e1, e2, h1, h2, l, p⟩ | ⟨a, b, xs, ys, e1, e2, h1, h2, l, p⟩ | ⟨a, b, ps, f, n3, e1, e2, h1, h2, nd, l⟩ | ⟨a, b, kvs, ks, n2, e1, e2, h1, h2, ek, nd, fl, l⟩
    · exact .inl h
    · exact .inr (.inl ⟨a, b, xs, ys, e1, e2, s _ _ h1, s _ _ h2, l, Paired.mapP p fun _ _ q => Alike.mono s q⟩)
    · exact .inr (.inr (.inl ⟨a, b, xs, ys, e1, e2, s _ _ h1, s _ _ h2, l, Paired.mapP p fun _ _ q => Alike.mono s q⟩))
    · exact .inr (.inr (.inr (.inl ⟨a, b, ps, f, n3, e1, e2, s _ _ h1, s _ _ h2, nd, l⟩)))
    · exact .inr (.inr (.inr (.inr ⟨a, b, kvs, ks, n2, e1, e2, s _ _ h1, s _ _ h2, ek, nd, fl, l⟩)))
theorem paired_nth {α β : Type} {R : α → β → Prop} : ∀ {xs : List α} {ys : List β}, Paired R xs ys → ∀ (i : Nat) (x : α) (y : β), xs[i]? = some x → ys[i]? = some y → R x y
  | _, _, .nil, i, x, y, h, _ => by cases i <;> cases h
  | _, _, .cons r t, i, x, y, h, k => by
    cases i with
    | zero => cases h; cases k; exact r
    | succ i => exact paired_nth t i x y h k
def tOder (t1 t2 : TE) : TE := fun σ H Q => t1 σ H Q ∨ t2 σ H Q
theorem PE.oder {X : Cx} {e : Expr} {t1 t2 : TE} (a : PE X e t1) (b : PE X e t2) : PE X e (tOder t1 t2) := ⟨fun pins s σ H Q I h => h.elim (a.run pins s σ H Q I) (b.run pins s σ H Q I)⟩
def spExact (n : Nat) : Sp := fun vs H Q _ => ∃ v w : V, vs = [v, w] ∧ Alike n H v w ∧ ∀ H', L2.Same H H' → Q (.bl true) H'
abbrev nExact : List Str := ["_law_mine", "_law_theirs", "_law_alike", "_law_a", "_law_b", "_law_key"]
theorem scExact : FnScope nExact ["_law_mine", "_law_theirs"] (defScope sExact) := ⟨rfl, rfl, rfl, by decide +kernel, rfl, by decide +kernel, by decide +kernel⟩
theorem walk_zipT {K : PySem.W.Frag} {a b : Addr} {xs ys : List V} {n : Nat} (hn : n = min xs.length ys.length) : Walk (RZ.ItzT K a b) n (fun H => SqT K H a xs ∧ SqT K H b ys) (YPair (fun i => xs[i]?) (fun i => ys[i]?)) := by
  subst hn
  refine ⟨fun i _ hi q => ?_, fun _ q => ⟨xs, ys, q.1, q.2, by omega⟩, fun i H v H' _ q y => ?_⟩
  · have h1 : i < xs.length := by omega
    have h2 : i < ys.length := by omega
    exact ⟨xs, ys, xs[i], ys[i], q.1, q.2, by simp [h1], by simp [h2]⟩
  · obtain ⟨T, x, z, h1, h2, h3, h4, h5⟩ := y
    exact ⟨T, x, z, h1, h2, h3, h4 xs q.1, h5 ys q.2⟩
theorem kit2F {K : PySem.W.Frag} {t : String} (h1 : kitB t "list" = some false) (h2 : kitB t "tuple" = some false) : PySem.W.kitAny K (.type t) [.type "list", .type "tuple"] = some false :=
  kitAny_cons (kit_ty h1) (fun _ => kitAny_cons (kit_ty h2) (fun _ => kitAny_nil) fun e => by cases e) fun e => by cases e
theorem kit2L {K : PySem.W.Frag} : PySem.W.kitAny K (.type "list") [.type "list", .type "tuple"] = some true :=
  kitAny_cons (b := true) (kit_ty (by decide +kernel)) (fun e => by cases e) fun _ => rfl
theorem kit2T {K : PySem.W.Frag} : PySem.W.kitAny K (.type "tuple") [.type "list", .type "tuple"] = some true :=
  kitAny_cons (b := false) (kit_ty (by decide +kernel)) (fun _ => kitAny_cons (b := true) (kit_ty (by decide +kernel)) (fun e => by cases e) fun _ => rfl) fun e => by cases e
theorem two_cls : Paired ClsV [.ty "list", .ty "tuple"] [.type "list", .type "tuple"] := .cons (.ty _) (.cons (.ty _) .nil)
theorem bl_eq (b : Bool) : decide (V.bl b = V.bl b) = true := decide_eq_true rfl
section
variable {P : Program} {w : World} {K : PySem.W.Frag} {mg : Str → Option Value} {base : Heap}
theorem step_exact {f : Addr} {fd : FuncData} (F : Fun K "_law_exact" "_law_exact" sExact f fd) (B : Blt mg) (Z : Blp mg) (hz : mg "zip" = none) {n : Nat} (C : Cee P w K mg base (n + 1) "_law_exact" ["_law_mine", "_law_theirs"] (spExact n)) : FnOk P w K mg base CX0 (n + 2) f fd ["_law_mine", "_law_theirs"] (spExact (n + 1)) := by
  refine F.ok scExact (fun vs H Q E h => ?_) (fun cdv A outer s H vs Q E hr h => ?_)
  · obtain ⟨v, w2, rfl, _⟩ := h
    rfl
  · obtain ⟨v, w2, rfl, al, k⟩ := h
    have nd := scExact.nd
    refine ⟨_, pss_cons (ps_if (pt_val (pe_callB call_isiT (by rfl) Z.isi boot_isi (pa_cons (pv 0) (pa_cons (pe_tup (pa_cons (pe_bltn (v := .ty "list") (by rfl) Z.list (by decide +kernel) rfl) (pa_cons (pe_bltn (v := .ty "tuple") (by rfl) Z.tuple (by decide +kernel) rfl) pa_nil))) pa_nil))))
        (pss_cons (ps_set (i := 2) nd rfl (Or.inl rfl) (pe_and (pe_cmpR op_eq (pe_callB call_isi (by rfl) Z.isi boot_isi (pa_cons (pv 1) (pa_cons (pe_bltn (v := .ty "list") (by rfl) Z.list (by decide +kernel) rfl) pa_nil))) (pe_callB call_isi (by rfl) Z.isi boot_isi (pa_cons (pv 0) (pa_cons (pe_bltn (v := .ty "list") (by rfl) Z.list (by decide +kernel) rfl) pa_nil))) (nomark _)) (pe_one (pe_cmpR op_eq (pe_callB call_isi (by rfl) Z.isi boot_isi (pa_cons (pv 1) (pa_cons (pe_bltn (v := .ty "tuple") (by rfl) Z.tuple (by decide +kernel) rfl) pa_nil))) (pe_callB call_isi (by rfl) Z.isi boot_isi (pa_cons (pv 0) (pa_cons (pe_bltn (v := .ty "tuple") (by rfl) Z.tuple (by decide +kernel) rfl) pa_nil))) (nomark _)))))
        (pss_one (ps_ret (pe_and (pv 2) (pe_and (pe_cmpR op_eq (pe_callB call_len_seq (by rfl) B.len PySem.boot_len (pa_cons (pv 0) pa_nil)) (pe_callB call_len_seq (by rfl) B.len PySem.boot_len (pa_cons (pv 1) pa_nil)) (nomark _)) (pe_one (pe_callB (cr_all rfl) (by rfl) Z.all (by decide +kernel) (pa_cons
          (pe_lc (own := [("_law_a", 3), ("_law_b", 4)]) (g := gXY K 3 4) (tt := tYes) (te := tCall (spExact n) [] E0 (tCons (tVar 3) (tCons (tVar 4) tNil))) rfl nd (RZ.pi_zipA (by rfl) hz (pa_cons (pv 0) (pa_cons (pv 1) pa_nil))) (blkOk_by (own := [("_law_a", 3), ("_law_b", 4)]) (N := nExact) (sc := defScope sExact) (by decide +kernel))
            (fun _ _ _ _ _ => pg_tup rfl (pgs_cons (pg_name (i := 3) nd rfl (Or.inl rfl)) (pgs_cons (pg_name (i := 4) nd rfl (Or.inl rfl)) pgs_nil))) (fun _ _ _ _ _ => pts_nil) (fun _ _ _ _ _ => pe_c C hr rfl (pa_cons (pv 3) (pa_cons (pv 4) pa_nil)) (Nat.le_refl _))) pa_nil)))))))) pss_nil)
      (pss_cons (ps_if (pt_val (pe_callB call_isi (by rfl) Z.isi boot_isi (pa_cons (pv 0) (pa_cons (pe_bltn (v := .ty "dict") (by rfl) Z.dict (by decide +kernel) rfl) pa_nil))))
        (pss_cons (ps_set (i := 2) nd rfl (Or.inl rfl) (pe_and (pe_callB call_isi (by rfl) Z.isi boot_isi (pa_cons (pv 1) (pa_cons (pe_bltn (v := .ty "dict") (by rfl) Z.dict (by decide +kernel) rfl) pa_nil))) (pe_one (pe_c C hr rfl (pa_cons (PE.oder (pe_callTy (call_list_dT rfl) (by rfl) Z.list (by decide +kernel) (pa_cons (pv 0) pa_nil)) (pe_callTy (call_list_dK rfl) (by rfl) Z.list (by decide +kernel) (pa_cons (pv 0) pa_nil))) (pa_cons (PE.oder (pe_callTy (call_list_dT rfl) (by rfl) Z.list (by decide +kernel) (pa_cons (pv 1) pa_nil)) (pe_callTy (call_list_dK rfl) (by rfl) Z.list (by decide +kernel) (pa_cons (pv 1) pa_nil))) pa_nil)) (Nat.le_refl _)))))
        (pss_one (ps_ret (pe_and (pv 2) (pe_one (pe_callB (cr_all rfl) (by rfl) Z.all (by decide +kernel) (pa_cons (pe_lock
          (pe_lc (own := [("_law_key", 5)]) (g := gName 5) (tt := tYes) (te := tCall (spExact n) [] E0 (tCons (tDGet (tVar 0) (tVar 5)) (tCons (tDGet (tVar 1) (tVar 5)) tNil))) rfl nd (pi_keys (pv 0)) (blkOk_by (own := [("_law_key", 5)]) (N := nExact) (sc := defScope sExact) (by decide +kernel))
            (fun _ _ _ _ _ => pg_name (i := 5) nd rfl (Or.inl rfl)) (fun _ _ _ _ _ => pts_nil) (fun _ _ _ _ _ => pe_c C hr rfl (pa_cons (pe_dget (hu_of hr) (pv 0) (pv 5) (fun _ _ => rfl)) (pa_cons (pe_dget (hu_of hr) (pv 1) (pv 5) (fun _ _ => rfl)) pa_nil)) (Nat.le_refl _)))) pa_nil))))))) pss_nil)
      (pss_cons (ps_set (i := 2) nd rfl (Or.inl rfl) (pe_cmpR op_eq (pe_callB call_isi (by rfl) Z.isi boot_isi (pa_cons (pv 0) (pa_cons (pe_bltn (v := .ty "int") (by rfl) B.int boot_int rfl) pa_nil))) (pe_callB call_isi (by rfl) Z.isi boot_isi (pa_cons (pv 1) (pa_cons (pe_bltn (v := .ty "int") (by rfl) B.int boot_int rfl) pa_nil))) (nomark _)))
      (pss_one (ps_ret (pe_and (pv 2) (pe_and (pe_cmpR op_eq (pe_callB call_isi (by rfl) Z.isi boot_isi (pa_cons (pv 0) (pa_cons (pe_bltn (v := .ty "bool") (by rfl) Z.bool (by decide +kernel) rfl) pa_nil))) (pe_callB call_isi (by rfl) Z.isi boot_isi (pa_cons (pv 1) (pa_cons (pe_bltn (v := .ty "bool") (by rfl) Z.bool (by decide +kernel) rfl) pa_nil))) (nomark _)) (pe_one (pe_cmpR op_eq (pv 0) (pv 1) (nomark _))))))))), ?_⟩
    rcases al with (⟨x, rfl, rfl⟩ | ⟨i, rfl, rfl⟩ | ⟨b, rfl, rfl⟩ | ⟨rfl, rfl⟩) | ⟨a, b, xs, ys, rfl, rfl, ha, hb, hl, pr⟩ | ⟨a, b, xs, ys, rfl, rfl, ha, hb, hl, pr⟩ | ⟨a, b, ps, f, n3, rfl, rfl, ha, hb, ndp, hl⟩ | ⟨a, b, kvs, ks, n2, rfl, rfl, ha, hb, ek, ndk, fl, hl⟩
    · skip
      refine ⟨_, rfl, (by show 2 ≤ sizeLine; decide), fun tp htp => ?_⟩
      have s1 := Same.new (H := H) (o := .tup [.ty "list", .ty "tuple"]) htp
      have etp : upd H tp (.tup [.ty "list", .ty "tuple"]) tp = _ := upd_same
      generalize upd H tp (.tup [.ty "list", .ty "tuple"]) = G at s1 etp ⊢
      refine ⟨_, tp, _, _, _, false, rfl, etp, two_cls, .base (.str _), kit2F (by decide +kernel) (by decide +kernel), _, rfl, iteF ?_⟩
      refine ⟨_, rfl, _, _, _, _, false, rfl, .ty _, .base (.str _), kit_ty (by decide +kernel), _, rfl, iteF ?_⟩
      refine ⟨_, rfl, _, _, _, _, false, rfl, .ty _, .base (.str _), kit_ty (by decide +kernel), _, rfl, _, _, _, _, false, rfl, .ty _, .base (.str _), kit_ty (by decide +kernel), rfl, ?_⟩
      rw [bl_eq]
      refine at_name (σ' := [some (.str x), some (.str x), some (.bl true), none, none, none]) rfl ?_
      refine ⟨_, rfl, _, rfl, iteT ?_⟩
      refine ⟨_, rfl, _, _, _, _, false, rfl, .ty _, .base (.str _), kit_ty (by decide +kernel), _, rfl, _, _, _, _, false, rfl, .ty _, .base (.str _), kit_ty (by decide +kernel), rfl, ?_⟩
      rw [bl_eq]
      refine ⟨_, rfl, iteT ⟨_, rfl, _, rfl, rfl, ?_⟩⟩
      rw [decide_eq_true rfl]
      exact k _ s1
    · skip
      refine ⟨_, rfl, (by show 2 ≤ sizeLine; decide), fun tp htp => ?_⟩
      have s1 := Same.new (H := H) (o := .tup [.ty "list", .ty "tuple"]) htp
      have etp : upd H tp (.tup [.ty "list", .ty "tuple"]) tp = _ := upd_same
      generalize upd H tp (.tup [.ty "list", .ty "tuple"]) = G at s1 etp ⊢
      refine ⟨_, tp, _, _, _, false, rfl, etp, two_cls, .base (.int _), kit2F (by decide +kernel) (by decide +kernel), _, rfl, iteF ?_⟩
      refine ⟨_, rfl, _, _, _, _, false, rfl, .ty _, .base (.int _), kit_ty (by decide +kernel), _, rfl, iteF ?_⟩
      refine ⟨_, rfl, _, _, _, _, true, rfl, .ty _, .base (.int _), kit_ty (by decide +kernel), _, rfl, _, _, _, _, true, rfl, .ty _, .base (.int _), kit_ty (by decide +kernel), rfl, ?_⟩
      rw [bl_eq]
      refine at_name (σ' := [some (.int i), some (.int i), some (.bl true), none, none, none]) rfl ?_
      refine ⟨_, rfl, _, rfl, iteT ?_⟩
      refine ⟨_, rfl, _, _, _, _, false, rfl, .ty _, .base (.int _), kit_ty (by decide +kernel), _, rfl, _, _, _, _, false, rfl, .ty _, .base (.int _), kit_ty (by decide +kernel), rfl, ?_⟩
      rw [bl_eq]
      refine ⟨_, rfl, iteT ⟨_, rfl, _, rfl, rfl, ?_⟩⟩
      rw [decide_eq_true rfl]
      exact k _ s1
    · skip
      refine ⟨_, rfl, (by show 2 ≤ sizeLine; decide), fun tp htp => ?_⟩
      have s1 := Same.new (H := H) (o := .tup [.ty "list", .ty "tuple"]) htp
      have etp : upd H tp (.tup [.ty "list", .ty "tuple"]) tp = _ := upd_same
      generalize upd H tp (.tup [.ty "list", .ty "tuple"]) = G at s1 etp ⊢
      refine ⟨_, tp, _, _, _, false, rfl, etp, two_cls, .base (.bl _), kit2F (by decide +kernel) (by decide +kernel), _, rfl, iteF ?_⟩
      refine ⟨_, rfl, _, _, _, _, false, rfl, .ty _, .base (.bl _), kit_ty (by decide +kernel), _, rfl, iteF ?_⟩
      refine ⟨_, rfl, _, _, _, _, true, rfl, .ty _, .base (.bl _), kit_ty (by decide +kernel), _, rfl, _, _, _, _, true, rfl, .ty _, .base (.bl _), kit_ty (by decide +kernel), rfl, ?_⟩
      rw [bl_eq]
      refine at_name (σ' := [some (.bl b), some (.bl b), some (.bl true), none, none, none]) rfl ?_
      refine ⟨_, rfl, _, rfl, iteT ?_⟩
      refine ⟨_, rfl, _, _, _, _, true, rfl, .ty _, .base (.bl _), kit_ty (by decide +kernel), _, rfl, _, _, _, _, true, rfl, .ty _, .base (.bl _), kit_ty (by decide +kernel), rfl, ?_⟩
      rw [bl_eq]
      refine ⟨_, rfl, iteT ⟨_, rfl, _, rfl, rfl, ?_⟩⟩
      rw [decide_eq_true rfl]
      exact k _ s1
    · skip
      refine ⟨_, rfl, (by show 2 ≤ sizeLine; decide), fun tp htp => ?_⟩
      have s1 := Same.new (H := H) (o := .tup [.ty "list", .ty "tuple"]) htp
      have etp : upd H tp (.tup [.ty "list", .ty "tuple"]) tp = _ := upd_same
      generalize upd H tp (.tup [.ty "list", .ty "tuple"]) = G at s1 etp ⊢
      refine ⟨_, tp, _, _, _, false, rfl, etp, two_cls, .base .non, kit2F (by decide +kernel) (by decide +kernel), _, rfl, iteF ?_⟩
      refine ⟨_, rfl, _, _, _, _, false, rfl, .ty _, .base .non, kit_ty (by decide +kernel), _, rfl, iteF ?_⟩
      refine ⟨_, rfl, _, _, _, _, false, rfl, .ty _, .base .non, kit_ty (by decide +kernel), _, rfl, _, _, _, _, false, rfl, .ty _, .base .non, kit_ty (by decide +kernel), rfl, ?_⟩
      rw [bl_eq]
      refine at_name (σ' := [some .non, some .non, some (.bl true), none, none, none]) rfl ?_
      refine ⟨_, rfl, _, rfl, iteT ?_⟩
      refine ⟨_, rfl, _, _, _, _, false, rfl, .ty _, .base .non, kit_ty (by decide +kernel), _, rfl, _, _, _, _, false, rfl, .ty _, .base .non, kit_ty (by decide +kernel), rfl, ?_⟩
      rw [bl_eq]
      refine ⟨_, rfl, iteT ⟨_, rfl, _, rfl, rfl, ?_⟩⟩
      rw [decide_eq_true rfl]
      exact k _ s1
    · skip
      refine ⟨_, rfl, (by show 2 ≤ sizeLine; decide), fun tp htp => ?_⟩
      have s1 := Same.new (H := H) (o := .tup [.ty "list", .ty "tuple"]) htp
      have etp : upd H tp (.tup [.ty "list", .ty "tuple"]) tp = _ := upd_same
      generalize upd H tp (.tup [.ty "list", .ty "tuple"]) = G at s1 etp ⊢
      refine ⟨_, tp, _, _, _, true, rfl, etp, two_cls, .base (.lst (s1 _ _ ha)), kit2L, _, rfl, iteT ?_⟩
      refine ⟨_, rfl, _, _, _, _, true, rfl, .ty _, .base (.lst (s1 _ _ hb)), kit_ty (by decide +kernel), _, rfl, _, _, _, _, true, rfl, .ty _, .base (.lst (s1 _ _ ha)), kit_ty (by decide +kernel), rfl, ?_⟩
      rw [bl_eq]
      refine ⟨_, rfl, iteT ?_⟩
      refine ⟨_, rfl, _, _, _, _, false, rfl, .ty _, .base (.lst (s1 _ _ hb)), kit_ty (by decide +kernel), _, rfl, _, _, _, _, false, rfl, .ty _, .base (.lst (s1 _ _ ha)), kit_ty (by decide +kernel), rfl, ?_⟩
      rw [bl_eq]
      refine at_name (σ' := [some (.ref a), some (.ref b), some (.bl true), none, none, none]) rfl ?_
      refine ⟨_, rfl, _, rfl, iteT ?_⟩
      refine ⟨_, rfl, a, _, rfl, .inl (SqL.of (s1 _ _ ha)), _, rfl, b, _, rfl, .inl (SqL.of (s1 _ _ hb)), rfl, ?_⟩
      have hlen := Paired.length pr
      rw [hlen, decide_eq_true rfl]
      refine ⟨_, rfl, iteT ?_⟩
      refine ⟨_, rfl, _, rfl, a, b, xs, ys, rfl, .inl ⟨SqL.of (s1 _ _ ha), SqL.of (s1 _ _ hb), fun D hD => ?_⟩⟩
      refine lc_true (walk_zip (K := K) (a := a) (b := b) (xs := xs) (ys := ys) rfl) (by omega) hD (fun H' s => ⟨SqL.of (s _ _ (s1 _ _ ha)), SqL.of (s _ _ (s1 _ _ hb))⟩) ?_ ?_
      · rintro i v H1 H2 R hi s2 ⟨T, x, y, rfl, hT, rfl, hx, hy⟩ kR
        have s3 := Same.new (H := H1) (o := .tup [x, y]) hT
        have alk : Alike n (upd H1 T (.tup [x, y])) x y := ((paired_nth pr i x y hx hy).mono s1 |>.mono s2).mono s3
        refine ⟨T, _, rfl, SqT.of upd_same, rfl, _, _, rfl, at_name (σ' := [some (.ref a), some (.ref b), some (.bl true), some x, none, none]) rfl ⟨_, _, rfl, at_name (σ' := [some (.ref a), some (.ref b), some (.bl true), some x, some y, none]) rfl ⟨rfl, rfl, ?_⟩⟩⟩
        exact ⟨_, rfl, _, rfl, x, y, rfl, alk, fun H3 s4 => kR _ fun c o e => s4 _ _ (s3 _ _ e)⟩
      · intro H1 s2 hD1
        refine ⟨D, _, rfl, SqL.of hD1, ?_⟩
        rw [all_true]
        exact k _ fun c o e => s2 _ _ (s1 _ _ e)
    · skip
      refine ⟨_, rfl, (by show 2 ≤ sizeLine; decide), fun tp htp => ?_⟩
      have s1 := Same.new (H := H) (o := .tup [.ty "list", .ty "tuple"]) htp
      have etp : upd H tp (.tup [.ty "list", .ty "tuple"]) tp = _ := upd_same
      generalize upd H tp (.tup [.ty "list", .ty "tuple"]) = G at s1 etp ⊢
      refine ⟨_, tp, _, _, _, true, rfl, etp, two_cls, .base (.tup (s1 _ _ ha)), kit2T, _, rfl, iteT ?_⟩
      refine ⟨_, rfl, _, _, _, _, false, rfl, .ty _, .base (.tup (s1 _ _ hb)), kit_ty (by decide +kernel), _, rfl, _, _, _, _, false, rfl, .ty _, .base (.tup (s1 _ _ ha)), kit_ty (by decide +kernel), rfl, ?_⟩
      rw [bl_eq]
      refine ⟨_, rfl, iteT ?_⟩
      refine ⟨_, rfl, _, _, _, _, true, rfl, .ty _, .base (.tup (s1 _ _ hb)), kit_ty (by decide +kernel), _, rfl, _, _, _, _, true, rfl, .ty _, .base (.tup (s1 _ _ ha)), kit_ty (by decide +kernel), rfl, ?_⟩
      rw [bl_eq]
      refine at_name (σ' := [some (.ref a), some (.ref b), some (.bl true), none, none, none]) rfl ?_
      refine ⟨_, rfl, _, rfl, iteT ?_⟩
      refine ⟨_, rfl, a, _, rfl, .inr (SqT.of (s1 _ _ ha)), _, rfl, b, _, rfl, .inr (SqT.of (s1 _ _ hb)), rfl, ?_⟩
      have hlen := Paired.length pr
      rw [hlen, decide_eq_true rfl]
      refine ⟨_, rfl, iteT ?_⟩
      refine ⟨_, rfl, _, rfl, a, b, xs, ys, rfl, .inr ⟨SqT.of (s1 _ _ ha), SqT.of (s1 _ _ hb), fun D hD => ?_⟩⟩
      refine lc_true (walk_zipT (K := K) (a := a) (b := b) (xs := xs) (ys := ys) rfl) (by omega) hD (fun H' s => ⟨SqT.of (s _ _ (s1 _ _ ha)), SqT.of (s _ _ (s1 _ _ hb))⟩) ?_ ?_
      · rintro i v H1 H2 R hi s2 ⟨T, x, y, rfl, hT, rfl, hx, hy⟩ kR
        have s3 := Same.new (H := H1) (o := .tup [x, y]) hT
        have alk : Alike n (upd H1 T (.tup [x, y])) x y := ((paired_nth pr i x y hx hy).mono s1 |>.mono s2).mono s3
        refine ⟨T, _, rfl, SqT.of upd_same, rfl, _, _, rfl, at_name (σ' := [some (.ref a), some (.ref b), some (.bl true), some x, none, none]) rfl ⟨_, _, rfl, at_name (σ' := [some (.ref a), some (.ref b), some (.bl true), some x, some y, none]) rfl ⟨rfl, rfl, ?_⟩⟩⟩
        exact ⟨_, rfl, _, rfl, x, y, rfl, alk, fun H3 s4 => kR _ fun c o e => s4 _ _ (s3 _ _ e)⟩
      · intro H1 s2 hD1
        refine ⟨D, _, rfl, SqL.of hD1, ?_⟩
        rw [all_true]
        exact k _ fun c o e => s2 _ _ (s1 _ _ e)
    · skip
      refine ⟨_, rfl, (by show 2 ≤ sizeLine; decide), fun tp htp => ?_⟩
      have s1 := Same.new (H := H) (o := .tup [.ty "list", .ty "tuple"]) htp
      have etp : upd H tp (.tup [.ty "list", .ty "tuple"]) tp = _ := upd_same
      generalize upd H tp (.tup [.ty "list", .ty "tuple"]) = G at s1 etp ⊢
      refine ⟨_, tp, _, _, _, false, rfl, etp, two_cls, .base (.dT (s1 _ _ ha)), kit2F (by decide +kernel) (by decide +kernel), _, rfl, iteF ?_⟩
      refine ⟨_, rfl, _, _, _, _, true, rfl, .ty _, .base (.dT (s1 _ _ ha)), kit_ty (by decide +kernel), _, rfl, iteT ?_⟩
      refine ⟨_, rfl, _, _, _, _, true, rfl, .ty _, .base (.dT (s1 _ _ hb)), kit_ty (by decide +kernel), _, rfl, iteT ?_⟩
      have ndk : ((ps.map fun p => (keyP p, valW f p)).map (·.1)).Nodup := by
        rw [List.map_map]
        exact List.Pairwise.map _ (fun a b hab e => hab (keyP_inj a b e)) ndp
      have hla : (ps.map fun p => (keyP p, valW f p)).length ≤ 100 := by rw [List.length_map]; exact hl
      have ha0 := s1 _ _ ha
      have hb0 := s1 _ _ hb
      obtain ⟨kvs, ek⟩ : ∃ z, z = ps.map fun p => (keyP p, valW f p) := ⟨_, rfl⟩
      rw [← ek] at ndk hla ha0 hb0
      refine .inl ⟨_, rfl, a, kvs, rfl, .inl ha0, fun l1 bs1 hl1 ik1 => ?_⟩
      have c1 := Same.new (H := G) (o := .lst (bs1.map V.ref)) hl1
      have c2 : upd G l1 (.lst (bs1.map V.ref)) l1 = _ := upd_same
      have ik1' : Paired (fun p b => (upd G l1 (.lst (bs1.map V.ref))) b = some (.tup (p.1.map kV))) kvs bs1 := Paired.mapP ik1 fun _ _ q => c1 _ _ q
      generalize upd G l1 (.lst (bs1.map V.ref)) = G1 at c1 c2 ik1' ⊢
      refine .inl ⟨_, rfl, b, kvs, rfl, .inl (c1 _ _ hb0), fun l2 bs2 hl2 ik2 => ?_⟩
      have d1 := Same.new (H := G1) (o := .lst (bs2.map V.ref)) hl2
      have d2 : upd G1 l2 (.lst (bs2.map V.ref)) l2 = _ := upd_same
      have ik2' : Paired (fun p b => (upd G1 l2 (.lst (bs2.map V.ref))) b = some (.tup (p.1.map kV))) kvs bs2 := Paired.mapP ik2 fun _ _ q => d1 _ _ q
      have ik1'' : Paired (fun p b => (upd G1 l2 (.lst (bs2.map V.ref))) b = some (.tup (p.1.map kV))) kvs bs1 := Paired.mapP ik1' fun _ _ q => d1 _ _ q
      generalize upd G1 l2 (.lst (bs2.map V.ref)) = G2 at d1 d2 ik2' ik1'' ⊢
      obtain ⟨m, rfl⟩ : ∃ m, n = m + 3 := ⟨n - 3, by omega⟩
      have len1 : kvs.length = bs1.length := Paired.length ik1''
      have len2 : kvs.length = bs2.length := Paired.length ik2'
      have alk : Alike (m + 3) G2 (.ref l1) (.ref l2) := by
        refine .inr (.inl ⟨l1, l2, _, _, rfl, rfl, d1 _ _ c2, d2, by rw [List.length_map]; omega, ?_⟩)
        refine paired_of (by rw [List.length_map, List.length_map]; omega) fun i x y hx hy => ?_
        rw [List.getElem?_map] at hx hy
        cases e1 : bs1[i]? with
        | none => rw [e1] at hx; cases hx
        | some b1 =>
          cases e2 : bs2[i]? with
          | none => rw [e2] at hy; cases hy
          | some b2 =>
            rw [e1] at hx
            rw [e2] at hy
            obtain rfl : V.ref b1 = x := Option.some.inj hx
            obtain rfl : V.ref b2 = y := Option.some.inj hy
            have hi : i < kvs.length := by
              have := (List.getElem?_eq_some_iff.mp e1).1
              omega
            obtain ⟨kv, ekv⟩ : ∃ kv, kvs[i]? = some kv := ⟨kvs[i], List.getElem?_eq_getElem hi⟩
            have t1 : G2 b1 = some (.tup (kv.1.map kV)) := paired_nth ik1'' i _ _ ekv e1
            have t2 : G2 b2 = some (.tup (kv.1.map kV)) := paired_nth ik2' i _ _ ekv e2
            obtain ⟨p, hp⟩ : ∃ p, kv.1 = keyP p := by
              have m := List.mem_of_getElem? ekv
              rw [ek] at m
              obtain ⟨p, _, e⟩ := List.mem_map.mp m
              exact ⟨p, (congrArg Prod.fst e).symm⟩
            rw [hp] at t1 t2
            exact .inr (.inr (.inl ⟨b1, b2, _, _, rfl, rfl, t1, t2, (by show 2 ≤ 100; decide), .cons (.inl (.inl ⟨_, rfl, rfl⟩)) (.cons (.inl (.inl ⟨_, rfl, rfl⟩)) .nil)⟩))
      refine ⟨.ref l1, .ref l2, rfl, alk, fun H2 s2 => ?_⟩
      refine at_name (σ' := [some (.ref a), some (.ref b), some (.bl true), none, none, none]) rfl ?_
      refine ⟨_, rfl, _, rfl, iteT ?_⟩
      have s02 : L2.Same H H2 := fun c o e => s2 _ _ (d1 _ _ (c1 _ _ (s1 _ _ e)))
      have ha2 : H2 a = some (.dT kvs) := s2 _ _ (d1 _ _ (c1 _ _ ha0))
      have hb2 : H2 b = some (.dT kvs) := s2 _ _ (d1 _ _ (c1 _ _ hb0))
      refine ⟨a, .dT kvs, ha2, trivial, fun od => ?_⟩
      refine ⟨_, rfl, a, od, rfl, .inr ⟨kvs, upd_same, fun D hD => ?_⟩⟩
      have nDa : D ≠ a := fun e => by rw [e, upd_same] at hD; cases hD
      refine lc_true walk_keysT (by omega) hD (fun H' s => s _ _ upd_same) ?_ ?_
      · rintro j x H0 H1 R hj s3 ⟨rfl, kk, v, q, hk, rfl, hq⟩ kR
        have hv : valV kvs kk = some v := valV_mem ndk (List.mem_of_getElem? hk)
        obtain ⟨z, rfl⟩ : ∃ z, v = .str z := by
          have m := List.mem_of_getElem? hk
          rw [ek] at m
          obtain ⟨p, _, e⟩ := List.mem_map.mp m
          exact ⟨f p.1 p.2, (congrArg Prod.snd e).symm⟩
        have ga : DGet H1 a (.ref q) (some (.str z)) := .inr ⟨kvs, kk, q, .inr ⟨od, s3 _ _ upd_same⟩, rfl, hq, hv.symm⟩
        have gb : DGet H1 b (.ref q) (some (.str z)) := by
          refine .inr ⟨kvs, kk, q, ?_, rfl, hq, hv.symm⟩
          by_cases e : b = a
          · rw [e]; exact .inr ⟨od, s3 _ _ upd_same⟩
          · exact .inl (s3 _ _ ((upd_ne e).trans hb2))
        refine at_name (σ' := [some (.ref a), some (.ref b), some (.bl true), none, none, some (.ref q)]) rfl ⟨rfl, ?_⟩
        exact ⟨_, rfl, _, rfl, a, _, rfl, ga, _, rfl, _, rfl, b, _, rfl, gb, .str z, .str z, rfl, .inl (.inl ⟨z, rfl, rfl⟩), kR⟩
      · intro H1 s3 hD1
        refine ⟨s3 _ _ upd_same, D, _, rfl, SqL.of ((upd_ne nDa).trans hD1), ?_⟩
        rw [all_true]
        refine k _ fun c o e => ?_
        by_cases hc : c = a
        · rw [hc] at e ⊢
          have := s02 _ _ e
          rw [ha2] at this
          rw [upd_same]; exact this
        · rw [upd_ne hc]
          exact s3 _ _ ((upd_ne hc).trans (s02 _ _ e))
    · skip
      refine ⟨_, rfl, (by show 2 ≤ sizeLine; decide), fun tp htp => ?_⟩
      have s1 := Same.new (H := H) (o := .tup [.ty "list", .ty "tuple"]) htp
      have etp : upd H tp (.tup [.ty "list", .ty "tuple"]) tp = _ := upd_same
      generalize upd H tp (.tup [.ty "list", .ty "tuple"]) = G at s1 etp ⊢
      refine ⟨_, tp, _, _, _, false, rfl, etp, two_cls, .base (.dK (s1 _ _ ha)), kit2F (by decide +kernel) (by decide +kernel), _, rfl, iteF ?_⟩
      refine ⟨_, rfl, _, _, _, _, true, rfl, .ty _, .base (.dK (s1 _ _ ha)), kit_ty (by decide +kernel), _, rfl, iteT ?_⟩
      refine ⟨_, rfl, _, _, _, _, true, rfl, .ty _, .base (.dK (s1 _ _ hb)), kit_ty (by decide +kernel), _, rfl, iteT ?_⟩
      have ekV : (kvs.map fun kv => kV kv.1) = ks.map V.str := by
        have e := congrArg (List.map kV) ek
        rw [List.map_map, List.map_map] at e
        exact e
      have lk : kvs.length = ks.length := by have := congrArg List.length ek; rw [List.length_map, List.length_map] at this; exact this
      have ndk2 : (kvs.map (·.1)).Nodup := by
        rw [ek]
        exact List.pairwise_map.mpr (List.Pairwise.imp (fun {a b} (ne : a ≠ b) e => ne (Sum.inr.inj e)) ndk)
      refine .inr ⟨_, rfl, a, kvs, rfl, s1 _ _ ha, fun l1 hl1 => ?_⟩
      rw [ekV]
      have c1 := Same.new (H := G) (o := .lst (ks.map V.str)) hl1
      have c2 : upd G l1 (.lst (ks.map V.str)) l1 = _ := upd_same
      generalize upd G l1 (.lst (ks.map V.str)) = G1 at c1 c2 ⊢
      refine .inr ⟨_, rfl, b, kvs, rfl, c1 _ _ (s1 _ _ hb), fun l2 hl2 => ?_⟩
      rw [ekV]
      have d1 := Same.new (H := G1) (o := .lst (ks.map V.str)) hl2
      have d2 : upd G1 l2 (.lst (ks.map V.str)) l2 = _ := upd_same
      generalize upd G1 l2 (.lst (ks.map V.str)) = G2 at d1 d2 ⊢
      obtain ⟨m, rfl⟩ : ∃ m, n = m + 2 := ⟨n - 2, by omega⟩
      have alk : Alike (m + 2) G2 (.ref l1) (.ref l2) := by
        refine .inr (.inl ⟨l1, l2, _, _, rfl, rfl, d1 _ _ c2, d2, by rw [List.length_map]; exact hl, ?_⟩)
        refine paired_of rfl fun i x y hx hy => ?_
        rw [hx] at hy
        obtain rfl := Option.some.inj hy
        obtain ⟨z, _, rfl⟩ := str_get hx
        exact .inl (.inl ⟨z, rfl, rfl⟩)
      refine ⟨.ref l1, .ref l2, rfl, alk, fun H2 s2 => ?_⟩
      refine at_name (σ' := [some (.ref a), some (.ref b), some (.bl true), none, none, none]) rfl ?_
      refine ⟨_, rfl, _, rfl, iteT ?_⟩
      have s02 : L2.Same H H2 := fun c o e => s2 _ _ (d1 _ _ (c1 _ _ (s1 _ _ e)))
      have ha2 : H2 a = some (.dK kvs) := s02 _ _ ha
      have hb2 : H2 b = some (.dK kvs) := s02 _ _ hb
      refine ⟨a, .dK kvs, ha2, trivial, fun od => ?_⟩
      refine ⟨_, rfl, a, od, rfl, .inl ⟨kvs, upd_same, fun D hD => ?_⟩⟩
      have nDa : D ≠ a := fun e => by rw [e, upd_same] at hD; cases hD
      refine lc_true walk_keys (by omega) hD (fun H' s => s _ _ upd_same) ?_ ?_
      · rintro j x H0 H1 R hj s3 ⟨rfl, kk, v, hk, rfl⟩ kR
        have hv : valV kvs kk = some v := valV_mem ndk2 (List.mem_of_getElem? hk)
        have ga : DGet H1 a (kV kk) (some v) := .inl ⟨kvs, kk, .inr ⟨od, s3 _ _ upd_same⟩, rfl, hv.symm⟩
        have gb : DGet H1 b (kV kk) (some v) := by
          refine .inl ⟨kvs, kk, ?_, rfl, hv.symm⟩
          by_cases e : b = a
          · rw [e]; exact .inr ⟨od, s3 _ _ upd_same⟩
          · exact .inl (s3 _ _ ((upd_ne e).trans hb2))
        refine at_name (σ' := [some (.ref a), some (.ref b), some (.bl true), none, none, some (kV kk)]) rfl ⟨rfl, ?_⟩
        exact ⟨_, rfl, _, rfl, a, _, rfl, ga, _, rfl, _, rfl, b, _, rfl, gb, v, v, rfl, .inl (fl _ (List.mem_of_getElem? hk)), kR⟩
      · intro H1 s3 hD1
        refine ⟨s3 _ _ upd_same, D, _, rfl, SqL.of ((upd_ne nDa).trans hD1), ?_⟩
        rw [all_true]
        refine k _ fun c o e => ?_
        by_cases hc : c = a
        · rw [hc] at e ⊢
          have := s02 _ _ e
          rw [ha2] at this
          rw [upd_same]; exact this
        · rw [upd_ne hc]
          exact s3 _ _ ((upd_ne hc).trans (s02 _ _ e))
theorem ok_exact {f : Addr} {fd : FuncData} (F : Fun K "_law_exact" "_law_exact" sExact f fd) (B : Blt mg) (Z : Blp mg) (hz : mg "zip" = none) (me : mg "_law_exact" = some (.ref f)) (kp : PySem.W.keepIn K (.ref f) = true) (hb : Binds K fd ["_law_mine", "_law_theirs"] []) : ∀ n, FnOk P w K mg base CX0 (n + 1) f fd ["_law_mine", "_law_theirs"] (spExact n)
  | 0 => by
    refine F.ok scExact (fun vs H Q E h => ?_) (fun cdv A outer s H vs Q E hr h => ?_)
    · obtain ⟨v, w2, rfl, _⟩ := h
      rfl
    · obtain ⟨v, w2, rfl, al, k⟩ := h
      exact al.elim
  | n + 1 => step_exact F B Z hz ⟨f, fd, ok_exact F B Z hz me kp hb n, me, kp, hb⟩
end
end KT
set_option Elab.async false
set_option linter.all false
set_option maxRecDepth 100000
set_option maxHeartbeats 4000000
namespace KT
open PySem L2 PyProof.Rows DTp TxS
/-- stands whatever happens to a thing that is no tuple -/
def StabF (F : Nat → V → Hp → Prop) : Prop := ∀ (D : Addr) (o : HO) (i : Nat) (y : V) (H H' : Hp), H D = some o → (∀ ys, o ≠ .tup ys) → But D H H' → F i y H → F i y H'
theorem StabF.val (v : Nat → V) : StabF fun i y _ => y = v i := fun _ _ _ _ _ _ _ _ _ h => h
theorem StabF.tup (f : Nat → List V → Prop) : StabF fun i y H => ∃ t xs, y = .ref t ∧ H t = some (.tup xs) ∧ f i xs := fun D o i y H H' hD no bt ⟨t, xs, e, ht, q⟩ =>
  ⟨t, xs, e, bt t _ (fun z => by rw [z, hD] at ht; exact no xs (Option.some.inj ht)) ht, q⟩
section
variable {J : It} {n : Nat} {G : Hp → Prop} {Y : Nat → Hp → V → Hp → Prop}
theorem lc_each (W : Walk J n G Y) {g : TG} {te : TE} {vs : List Nat} {σ : L2.St} {H1 : Hp} {D : Addr} {Qd : Hp → Prop} (F : Nat → V → Hp → Prop) (st : StabF F) (few : n ≤ 1000) (hD : H1 D = none) (stay : ∀ H', L2.Same H1 H' → G H')
    (step : ∀ i x H H' (R : VK), i < n → L2.Same H1 H → Y i H x H' → (∀ y H3, L2.Same H H3 → F i y H3 → R y H3) → g x (wipe σ vs) H' fun σ2 H2 => wipe σ2 vs = wipe σ vs ∧ te σ2 H2 R)
    (done : ∀ H' ys, L2.Same H1 H' → H' D = some (.lst ys) → ys.length = n → (∀ i y, ys[i]? = some y → F i y H') → Qd H') :
    ∃ W : Nat → Nat → Hp → Prop, (∃ m, W 0 m (upd H1 D (.lst []))) ∧ ∀ i m H, W i m H →
      (J.stop i H ∧ Qd H) ∨ (J.go i H ∧ ∃ Nx : Hp → Prop, (∀ H', Nx H' → ∃ m', m' < m ∧ W (i + 1) m' H') ∧ ∀ x H', J.yld i H x H' → g x (wipe σ vs) H' fun σ2 H2 => wipe σ2 vs = wipe σ vs ∧ tYes σ2 H2 fun b H3 =>
        if b = true then te σ2 H3 fun y H4 => ∃ acc, H4 D = some (.lst acc) ∧ acc.length < sizeLine ∧ Nx (upd H4 D (.lst (acc ++ [y]))) else Nx H3) := by
  refine lc_it W (tt := tYes) (fun i H' => L2.Same H1 H' ∧ ∃ ys : List V, H' D = some (.lst ys) ∧ ys.length = i ∧ ∀ j y, ys[j]? = some y → F j y H') ⟨Same.new hD, [], upd_same, rfl, fun j y h => by cases h⟩ (fun i H' _ h => stay H' h.1) (fun i x H H' hi h y => ?_) (fun H' h => ?_)
  · obtain ⟨s1, ys, hDp, ly, fy⟩ := h
    refine step i x H H' _ hi s1 y fun z H3 s2 fz => ⟨_, s2 _ _ hDp, small1000 (by omega), ?_, ys ++ [z], upd_same, ?_, ?_⟩
    · intro c o e
      rw [upd_ne (ne_of_none e hD)]
      exact s2 _ _ (s1 _ _ e)
    · rw [List.length_append, ly]; rfl
    · intro j y hj
      by_cases e : j < ys.length
      · rw [List.getElem?_append_left e] at hj
        exact st D _ j y H _ hDp (fun _ z => nomatch z) (fun b o ne hb => (upd_ne ne).trans (s2 _ _ hb)) (fy j y hj)
      · have ej : j = i := by
          have := (List.getElem?_eq_some_iff.mp hj).1
          rw [List.length_append, List.length_singleton] at this
          omega
        rw [List.getElem?_append_right (by omega), ej, ly, Nat.sub_self] at hj
        obtain rfl : z = y := Option.some.inj hj
        rw [ej]
        exact st D _ i z H3 _ (s2 _ _ hDp) (fun _ z => nomatch z) (fun b o ne hb => (upd_ne ne).trans hb) fz
  · obtain ⟨s1, ys, hDp, ly, fy⟩ := h
    exact done H' ys s1 hDp ly fy
end
section
variable {K : PySem.W.Frag}
/-- [.. for key in told], the keys tuples -/
theorem lk_each {te0 : TE} {g : TG} {te : TE} {vs : List Nat} {σ : L2.St} {H : Hp} {Q : VK} {d : Addr} {kvs : List (List Key × V)} (hi : ∀ od (R : VK), R (.ref d) (upd H d (.frz od (.dT kvs))) → te0 σ (upd H d (.frz od (.dT kvs))) R) (hd : H d = some (.dT kvs))
    (F : Nat → V → Hp → Prop) (st : StabF F) (few : kvs.length ≤ 1000)
    (step : ∀ i kk v q od H1 (R : VK), kvs[i]? = some (kk, v) → L2.Same (upd H d (.frz od (.dT kvs))) H1 → H1 q = some (.tup (kk.map kV)) → (∀ y H3, L2.Same H1 H3 → F i y H3 → R y H3) → g (.ref q) (wipe σ vs) H1 fun σ2 H2 => wipe σ2 vs = wipe σ vs ∧ te σ2 H2 R)
    (k : ∀ D ys H', L2.Same H H' → H D = none → H' D = some (.lst ys) → ys.length = kvs.length → (∀ i y, ys[i]? = some y → F i y H') → Q (.ref D) H') :
    tLockE (tLc (iKeys te0) g tYes te vs) σ H Q := by
  refine ⟨d, .dT kvs, hd, trivial, fun od => ?_⟩
  refine hi od _ ⟨d, od, rfl, .inr ⟨kvs, upd_same, fun D hD => ?_⟩⟩
  have nDd : D ≠ d := fun e => by rw [e, upd_same] at hD; cases hD
  have hD0 : H D = none := by rw [upd_ne nDd] at hD; exact hD
  refine lc_each walk_keysT F st few hD (fun H' s => s _ _ upd_same) ?_ ?_
  · rintro i x H1 H1' R hi s1 ⟨rfl, kk, v, q, hk, rfl, hq⟩ kR
    exact step i kk v q od H1' R hk s1 hq kR
  · intro H1 ys s1 hD1 ly fy
    have hdl : H1 d = some (.frz od (.dT kvs)) := s1 _ _ upd_same
    refine ⟨hdl, k D ys _ (fun b o e => ?_) hD0 ((upd_ne nDd).trans hD1) ly fun i y hy => st d _ i y H1 _ hdl (fun _ z => nomatch z) (fun b o ne hb => (upd_ne ne).trans hb) (fy i y hy)⟩
    by_cases hb : b = d
    · rw [hb] at e ⊢
      rw [hd] at e
      rw [upd_same]; exact e
    · rw [upd_ne hb]
      exact s1 _ _ ((upd_ne hb).trans e)
end
/-- things all of which are addresses -/
theorem refs_of {α : Type} {R : Addr → α → Prop} : ∀ {L : List α} {ys : List V}, ys.length = L.length → (∀ (i : Nat) (y : V) (a : α), ys[i]? = some y → L[i]? = some a → ∃ t, y = .ref t ∧ R t a) → ∃ ps : List Addr, ys = ps.map V.ref ∧ Paired R ps L
  | [], [], _, _ => ⟨[], rfl, .nil⟩
  | [], _ :: _, h, _ => by cases h
  | _ :: _, [], h, _ => by cases h
  | a :: L, y :: ys, h, k => by
    obtain ⟨t, rfl, r⟩ := k 0 y a rfl rfl
    obtain ⟨ps, e, p⟩ := refs_of (Nat.succ.inj h) fun i y a h1 h2 => k (i + 1) y a h1 h2
    exact ⟨t :: ps, by rw [e]; rfl, .cons r p⟩
theorem keys_putK (kvs : List (Key × V)) (ks : List Str) (x : Str) (v : V) (h : kvs.map (·.1) = ks.map Sum.inr) : (putK kvs (Sum.inr x) v).map (·.1) = (added ks x).map Sum.inr := by
  unfold putK added
  have ha : (kvs.any fun kv => decide (kv.1 = Sum.inr x)) = decide (x ∈ ks) := by
    have e1 : (kvs.any fun kv => decide (kv.1 = Sum.inr x)) = (kvs.map (·.1)).any fun k => decide (k = Sum.inr x) := by rw [List.any_map]; rfl
    rw [e1, h, List.any_map]
    by_cases z : x ∈ ks
    · rw [decide_eq_true z]
      exact List.any_eq_true.mpr ⟨x, z, by simp⟩
    · rw [decide_eq_false z, List.any_eq_false]
      intro y hy
      simp only [Function.comp, decide_eq_true_eq]
      intro e
      injection e with e
      exact z (e ▸ hy)
  rw [ha]
  by_cases z : x ∈ ks
  · rw [if_pos (decide_eq_true z), if_pos z, ← h, List.map_map]
    refine List.map_congr_left fun kv _ => ?_
    show (if kv.1 = Sum.inr x then (kv.1, v) else kv).1 = kv.1
    split <;> rfl
  · rw [if_neg (by simp [z]), if_neg z, List.map_append, List.map_append, h]
    rfl
theorem keys_mergeK : ∀ (L : List (Str × V)) (kvs : List (Key × V)) (ks : List Str), kvs.map (·.1) = ks.map Sum.inr → ks.Nodup → ∃ ks' : List Str, (mergeK kvs (L.map fun p => (Sum.inr p.1, p.2))).map (·.1) = ks'.map Sum.inr ∧ ks'.Nodup ∧ ∀ x, x ∈ ks' ↔ x ∈ ks ∨ x ∈ L.map (·.1)
  | [], kvs, ks, h, n => ⟨ks, h, n, fun x => by simp⟩
  | p :: L, kvs, ks, h, n => by
    obtain ⟨ks', h1, h2, h3⟩ := keys_mergeK L (putK kvs (Sum.inr p.1) p.2) (added ks p.1) (keys_putK kvs ks p.1 p.2 h) (added_nodup n)
    refine ⟨ks', h1, h2, fun x => ?_⟩
    rw [h3, added_mem, List.map_cons, List.mem_cons]
    constructor
    · rintro ((a | b) | c)
      · exact .inl a
      · exact .inr (.inl b)
      · exact .inr (.inr c)
    · rintro (a | b | c)
      · exact .inl (.inl a)
      · exact .inl (.inr b)
      · exact .inr c
section
variable {P : Program} {w : World} {K : PySem.W.Frag} {mg : Str → Option Value} {base : Heap} {C : Addr}
def spKindsOf : Sp := fun vs H Q _ => ∃ (d : Addr) (ws : List Str) (f : Str → Str → Str), vs = [.ref d] ∧ H d = some (.dT (tabW ws f)) ∧ KW ws f ∧ ∀ (q : Addr) (H' : Hp), L2.Same H H' → H q = none → H' q = some (.lst (ws.map V.str)) → Q (.ref q) H'
abbrev nKindsOf : List Str := ["_law_table_here", "_law_pair"]
theorem scKindsOf : FnScope nKindsOf ["_law_table_here"] (defScope sKindsOf) := ⟨rfl, rfl, rfl, by decide +kernel, rfl, by decide +kernel, by decide +kernel⟩
theorem pairsW_fst {ws : List Str} {x : Str} : x ∈ (pairsW ws).map (·.1) ↔ x ∈ ws := by
  rw [List.mem_map]
  constructor
  · rintro ⟨p, hp, rfl⟩
    exact (mem_pairsW.mp hp).1
  · intro h
    exact ⟨(x, x), mem_pairsW.mpr ⟨h, h⟩, rfl⟩
theorem tabW_at {ws : List Str} {f : Str → Str → Str} {i : Nat} {kk : List Key} {v : V} (h : (tabW ws f)[i]? = some (kk, v)) : ∃ p, (pairsW ws)[i]? = some p ∧ kk = keyP p ∧ v = valW f p ∧ p.1 ∈ ws ∧ p.2 ∈ ws := by
  unfold tabW at h
  rw [List.getElem?_map] at h
  cases e : (pairsW ws)[i]? with
  | none => rw [e] at h; cases h
  | some p =>
    rw [e] at h
    have h := Option.some.inj h
    have m := mem_pairsW.mp (List.mem_of_getElem? e)
    exact ⟨p, rfl, (congrArg Prod.fst h).symm, (congrArg Prod.snd h).symm, m.1, m.2⟩
theorem tab16 {ws : List Str} {f : Str → Str → Str} (kw : KW ws f) : (tabW ws f).length ≤ 16 := by
  rw [tabW_len]
  exact Nat.le_trans (Nat.mul_le_mul kw.few kw.few) (by decide)
theorem ok_kindsOf {g : Addr} {fd : FuncData} (F : Fun K "_law_kinds_of" "_law_kinds_of" sKindsOf g fd) (Z : Blp mg) : FnOk P w K mg base CX0 1 g fd ["_law_table_here"] spKindsOf := by
  refine F.ok scKindsOf (fun vs H Q E h => ?_) (fun cdv A outer s H vs Q E hr h => ?_)
  · obtain ⟨d, ws, f, rfl, _⟩ := h
    rfl
  · obtain ⟨d, ws, f, rfl, hd, kw, k⟩ := h
    have nd := scKindsOf.nd
    refine ⟨_, pss_one (ps_ret (pe_callB (call_sortedD rfl) (by rfl) Z.sorted (by decide +kernel) (pa_cons (pe_callTy (call_dictP rfl) (by rfl) Z.dict (by decide +kernel) (pa_cons (pe_lock
      (pe_lc (own := [("_law_pair", 1)]) (g := gName 1) (tt := tYes) (te := tTup (tCons (tOp (rIxT K) (tVar 1) (tC (.int 0))) (tCons (tC (.bl true)) tNil))) rfl nd (pi_keys (pv 0)) (blkOk_by (own := [("_law_pair", 1)]) (N := nKindsOf) (sc := defScope sKindsOf) (by decide +kernel))
        (fun _ _ _ _ _ => pg_name (i := 1) nd rfl (Or.inl rfl)) (fun _ _ _ _ _ => pts_nil) (fun _ _ _ _ _ => pe_tup (pa_cons (pe_ix ix_tup (pv 1) pe_int (fun _ _ => rfl)) (pa_cons pe_bl pa_nil))))) pa_nil)) pa_nil))), ?_⟩
    refine lk_each (fun od R hh => ⟨_, rfl, hh⟩) hd (fun i y H' => ∃ t xs, y = .ref t ∧ H' t = some (.tup xs) ∧ ∃ p, (pairsW ws)[i]? = some p ∧ xs = [.str p.1, .bl true]) (StabF.tup _) (by have := tab16 kw; omega) ?_ ?_
    · rintro i kk v q od H1 R hk s1 hq kR
      obtain ⟨⟨x, y⟩, e1, rfl, rfl, _, _⟩ := tabW_at hk
      refine at_name (σ' := [some (.ref d), some (.ref q)]) rfl ⟨rfl, ?_⟩
      refine ⟨_, rfl, q, [.str x, .str y], 0, _, rfl, rfl, SqT.of hq, atI_nat (j := 0) rfl, (by show 2 ≤ sizeLine; decide), fun t ht => ?_⟩
      exact kR _ _ (Same.new ht) ⟨t, _, rfl, upd_same, (x, y), e1, rfl⟩
    · intro D ys H1 s1 hD0 hD ly fy
      have lpw : (tabW ws f).length = (pairsW ws).length := by unfold tabW; rw [List.length_map]
      obtain ⟨ps, rfl, pr⟩ := refs_of (L := pairsW ws) (R := fun t p => H1 t = some (.tup [.str p.1, .bl true])) (ly.trans lpw) fun i y a h1 h2 => by
        obtain ⟨t, xs, e1, e2, p, e3, e4⟩ := fy i y h1
        rw [h2] at e3
        obtain rfl := Option.some.inj e3
        exact ⟨t, e1, by rw [← e4]; exact e2⟩
      have pr2 : Paired (fun p (kv : Key × V) => SqT K H1 p [kV kv.1, kv.2]) ps (((pairsW ws).map fun p => (p.1, V.bl true)).map fun p => (Sum.inr p.1, p.2)) := by
        rw [List.map_map]
        clear fy ly hD
        generalize pairsW ws = L at pr
        induction pr with
        | nil => exact .nil
        | cons r t ih => exact .cons (SqT.of r) ih
      refine ⟨D, ps, _, rfl, SqL.of hD, pr2, fun q hq => ?_⟩
      obtain ⟨ks, m1, m2, m3⟩ := keys_mergeK ((pairsW ws).map fun p => (p.1, V.bl true)) [] [] rfl .nil
      have m4 : ∀ x, x ∈ ks ↔ x ∈ ws := fun x => by
        rw [m3, List.map_map]
        have := pairsW_fst (ws := ws) (x := x)
        simp only [List.not_mem_nil, false_or]
        exact this
      have l4 : ks.length ≤ 4 := Nat.le_trans (List.Nodup.length_le_of_subset m2 fun x hx => (m4 x).mp hx) kw.few
      refine ⟨q, _, ks, rfl, .inl upd_same, m1, by omega, fun ys p py so hp => ?_⟩
      have ey : ys = ws := Asc.eq (sortedS_asc so (py.nodup_iff.mpr m2)) kw.asc (py.trans ((List.perm_ext_iff_of_nodup m2 kw.asc.nodup).mpr m4))
      subst ey
      have sq := Same.new (H := H1) (o := .dK (mergeK [] (((pairsW ys).map fun p => (p.1, V.bl true)).map fun p => (Sum.inr p.1, p.2)))) hq
      refine k p _ (fun b o e => ?_) (s1.free (sq.free hp)) upd_same
      rw [upd_ne (ne_of_none (sq _ _ (s1 _ _ e)) hp)]
      exact sq _ _ (s1 _ _ e)
/-- [k for k in kinds_of(t) if t[k, k] == k] -/
def spSquares : Sp := fun vs H Q _ => ∃ (d : Addr) (ws : List Str) (f : Str → Str → Str), vs = [.ref d] ∧ H d = some (.dT (tabW ws f)) ∧ KW ws f ∧ ∀ (q : Addr) (H' : Hp), L2.Same H H' → H q = none → H' q = some (.lst ((sqs ws f).map V.str)) → Q (.ref q) H'
abbrev nSquares : List Str := ["_law_table_here", "_law_kind"]
theorem scSquares : FnScope nSquares ["_law_table_here"] (defScope sSquares) := ⟨rfl, rfl, rfl, by decide +kernel, rfl, by decide +kernel, by decide +kernel⟩
theorem ok_squares {g : Addr} {fd : FuncData} (F : Fun K "_law_squares" "_law_squares" sSquares g fd) (M : Cee P w K mg base 1 "_law_kinds_of" ["_law_table_here"] spKindsOf) : FnOk P w K mg base CX0 2 g fd ["_law_table_here"] spSquares := by
  refine F.ok scSquares (fun vs H Q E h => ?_) (fun cdv A outer s H vs Q E hr h => ?_)
  · obtain ⟨d, ws, f, rfl, _⟩ := h
    rfl
  · obtain ⟨d, ws, f, rfl, hd, kw, k⟩ := h
    have nd := scSquares.nd
    refine ⟨_, pss_one (ps_ret (pe_lc (own := [("_law_kind", 1)]) (g := gName 1) (tt := tTest (tOp rEq (tGet2 (tVar 0) (tVar 1) (tVar 1)) (tVar 1))) (te := tVar 1) rfl nd (pi_list (pe_c M hr rfl (pa_cons (pv 0) pa_nil)))
        (blkOk_by (own := [("_law_kind", 1)]) (N := nSquares) (sc := defScope sSquares) (by decide +kernel)) (fun _ _ _ _ _ => pg_name (i := 1) nd rfl (Or.inl rfl)) (fun _ _ _ _ _ => pts_one (pt_cmpR op_eq (pe_dget (hu_of hr) (pv 0) (pe_tup (pa_cons (pv 1) (pa_cons (pv 1) pa_nil))) (fun _ _ => rfl)) (pv 1) (nomark _))) (fun _ _ _ _ _ => pv 1))), ?_⟩
    refine ⟨_, rfl, d, ws, f, rfl, hd, kw, fun q H1 s1 hq0 hq => ?_⟩
    refine ⟨q, rfl, ⟨_, SqL.of hq⟩, fun D hD => ?_⟩
    refine lc_it (walk_list (K := K) (a := q) (xs := ws.map V.str)) (fun i H' => L2.Same H1 H' ∧ H' D = some (.lst (((ws.take i).filter fun x => decide (f x x = x)).map V.str))) ?_ ?_ ?_ ?_
    · exact ⟨Same.new hD, upd_same⟩
    · rintro i H2 _ ⟨s2, _⟩
      exact SqL.of (s2 _ _ hq)
    · rintro i v H0 H2 hi ⟨s2, hD2⟩ ⟨rfl, hv⟩
      obtain ⟨x, ex, rfl⟩ := str_get hv
      have mx : x ∈ ws := List.mem_of_getElem? ex
      have td : TabW H2 d ws f := ⟨_, .inl (s2 _ _ (s1 _ _ hd)), tabW_tb kw.asc.nodup⟩
      refine at_name (σ' := [some (.ref d), some (.str x)]) rfl ⟨rfl, ?_⟩
      refine ⟨_, rfl, _, rfl, _, rfl, (by show 2 ≤ sizeLine; decide), fun t ht => ?_⟩
      have s3 := Same.new (H := H2) (o := .tup [.str x, .str x]) ht
      refine ⟨d, _, rfl, (td.mono s3).get mx mx upd_same, ?_⟩
      generalize upd H2 t (.tup [.str x, .str x]) = H3 at s3 ⊢
      refine ⟨_, rfl, rfl, _, rfl, ?_⟩
      have hD3 := s3 _ _ hD2
      have lenb : ((ws.take i).filter fun x => decide (f x x = x)).length ≤ 4 := Nat.le_trans (List.length_filter_le _ _) (by rw [List.length_take]; have := kw.few; omega)
      have dq : decide (V.str (f x x) = V.str x) = decide (f x x = x) := by
        by_cases z : f x x = x
        · rw [z]; simp
        · rw [decide_eq_false z, decide_eq_false]
          intro e
          injection e with e
          exact z e
      rw [dq, take_next' ex, List.filter_append]
      refine ite2 (fun hsq => ?_) (fun hsq => ?_)
      · refine ⟨_, rfl, _, hD3, ?_, fun c o e => ?_, ?_⟩
        · rw [List.length_map]
          exact small1000 (by omega)
        · rw [upd_ne (ne_of_none e hD)]
          exact s3 _ _ (s2 _ _ e)
        · have e1 : List.filter (fun x => decide (f x x = x)) [x] = [x] := List.filter_cons_of_pos (p := fun x => decide (f x x = x)) (l := []) hsq
          rw [e1, List.map_append]
          exact upd_same
      · have e1 : List.filter (fun x => decide (f x x = x)) [x] = [] := List.filter_cons_of_neg (p := fun x => decide (f x x = x)) (l := []) hsq
        rw [e1, List.append_nil]
        exact ⟨fun c o e => s3 _ _ (s2 _ _ e), hD3⟩
    · rintro H2 ⟨s2, hD2⟩
      rw [List.length_map, List.take_length] at hD2
      exact k D H2 (fun c o e => s2 _ _ (s1 _ _ e)) (s1.free hD) hD2
end
end KT
set_option Elab.async false
set_option linter.all false
set_option maxRecDepth 100000
set_option maxHeartbeats 4000000
namespace KT
open PySem L2 PyProof.Rows DTp TxS
section
variable {P : Program} {w : World} {K : PySem.W.Frag} {mg : Str → Option Value} {base : Heap} {C : Addr}
theorem tyV_dT {H : Hp} {d : Addr} {kvs : List (List Key × V)} (h : H d = some (.dT kvs)) : tyV K "dict" (.ref d) H := .inr (.inr (.inl ⟨rfl, .inr ⟨kvs, h⟩⟩))
theorem ItT.prT {H : Hp} : ∀ {ts : List Addr} {kvs : List (List Key × V)}, ItT H ts kvs → PrT K H ts kvs
  | _, _, .nil => .nil
  | _, _, .cons ⟨b, h1, h2⟩ t => .cons ⟨b, SqT.of h1, h2⟩ (ItT.prT t)
theorem paired_append {α β : Type} {F : α → β → Prop} : ∀ {xs : List α} {ys : List β} {xs2 : List α} {ys2 : List β}, Paired F xs ys → Paired F xs2 ys2 → Paired F (xs ++ xs2) (ys ++ ys2)
  | _, _, _, _, .nil, h => h
  | _, _, _, _, .cons r t, h => .cons r (paired_append t h)
theorem paired_rev {α β : Type} {F : α → β → Prop} : ∀ {xs : List α} {ys : List β}, Paired F xs ys → Paired F xs.reverse ys.reverse
  | _, _, .nil => .nil
  | _, _, .cons r t => by
    rw [List.reverse_cons, List.reverse_cons]
    exact paired_append (paired_rev t) (.cons r .nil)
theorem ItT.mono {H H' : Hp} (s : L2.Same H H') {ts : List Addr} {kvs : List (List Key × V)} (h : ItT H ts kvs) : ItT H' ts kvs := Paired.mapP h fun _ _ ⟨b, h1, h2⟩ => ⟨b, s _ _ h1, s _ _ h2⟩
/-- a dict of the same entries in another order -/
theorem merge_perm {ws : List Str} {f : Str → Str → Str} (n : ws.Nodup) {ps : List (Str × Str)} (pm : ps.Perm (pairsW ws)) : TbG (SqW ws) keyP (valW f) (mergeT [] (ps.map fun p => (keyP p, valW f p))) :=
  (TbG.merge (val := valW f) keyP_inj ps TbG.nil).congr fun a => by
    rw [false_or, pm.mem_iff, mem_pairsW]
theorem tabW_rev {ws : List Str} {f : Str → Str → Str} : (tabW ws f).reverse = (pairsW ws).reverse.map fun p => (keyP p, valW f p) := by
  unfold tabW
  rw [List.map_reverse]
def spMadeKinds (C : Addr) : Sp := fun vs H Q _ => ∃ (d : Addr) (ws : List Str) (f : Str → Str → Str), vs = [.ref d] ∧ H d = some (.dT (tabW ws f)) ∧ KW ws f ∧ ∀ (x : Addr) (H' : Hp), L2.Same H H' → KdNew C H H' x ws f → Q (.ref x) H'
theorem scMadeKinds : FnScope ["_law_table_here"] ["_law_table_here"] (defScope sMadeKinds) := ⟨rfl, rfl, rfl, by decide +kernel, rfl, by decide +kernel, by decide +kernel⟩
theorem KdNew.back {C : Addr} {H H1 H2 : Hp} {x : Addr} {ws : List Str} {f : Str → Str → Str} (s : L2.Same H H1) (h : KdNew C H1 H2 x ws f) : KdNew C H H2 x ws f := let ⟨dx, d, l, k, a, b, c, e⟩ := h; ⟨dx, d, l, k, s.free a, s.free b, s.free c, s.free e⟩
theorem ok_madeKinds {g : Addr} {fd : FuncData} (F : Fun K "_law_made_kinds" "_law_made_kinds" sMadeKinds g fd) (T : KTx K mg C) (Z : Blp mg) (N : KMk P w K mg base C) : FnOk P w K mg base CX0 6 g fd ["_law_table_here"] (spMadeKinds C) := by
  refine F.ok scMadeKinds (fun vs H Q E h => ?_) (fun cdv A outer s H vs Q E hr h => ?_)
  · obtain ⟨d, ws, f, rfl, _⟩ := h
    rfl
  · obtain ⟨d, ws, f, rfl, hd, kw, k⟩ := h
    have nd := scMadeKinds.nd
    refine ⟨_, pss_one (ps_ret (pe_kinds N T.mgC hr rfl (pa_cons (pe_callTy (cr_dictT rfl (u2 hr.units)) (by rfl) Z.dict (by decide +kernel) (pa_cons (pe_revL
      (pe_callTy (cr_listIt rfl) (by rfl) Z.list (by decide +kernel) (pa_cons (pe_bm0 PySem.F.plainAttrs_dict PySem.F.slot_dict_items PySem.F.type_dict_items L2.DX.mt_itemsT (pv 0)) pa_nil))) pa_nil)) pa_nil))), ?_⟩
    refine ⟨_, rfl, tyV_dT hd, d, _, rfl, rfl, hd, fun v hv => ?_⟩
    have s1 := Same.new (H := H) (o := L2.DX.itemsO v d) hv
    have hv1 : upd H v (L2.DX.itemsO v d) v = _ := upd_same
    generalize upd H v (L2.DX.itemsO v d) = H1 at s1 hv1 ⊢
    refine ⟨v, d, _, rfl, hv1, .inl (s1 _ _ hd), fun H2 l ts s2 _ _ _ _ hl it => ?_⟩
    refine ⟨l, _, rfl, SqL.of hl, fun r hr0 => ?_⟩
    have s3 := Same.new (H := H2) (o := .lst (ts.map V.ref).reverse) hr0
    have hr1 : upd H2 r (.lst (ts.map V.ref).reverse) r = _ := upd_same
    have it3 := ItT.mono s3 it
    generalize upd H2 r (.lst (ts.map V.ref).reverse) = H3 at s3 hr1 it3 ⊢
    have e1 : (ts.map V.ref).reverse = ts.reverse.map V.ref := by rw [List.map_reverse]
    rw [e1] at hr1
    refine ⟨r, ts.reverse, (tabW ws f).reverse, rfl, SqL.of hr1, ItT.prT (paired_rev it3), fun q hq => ?_⟩
    have s4 := Same.new (H := H3) (o := .dT (mergeT [] (tabW ws f).reverse)) hq
    have hq1 : upd H3 q (.dT (mergeT [] (tabW ws f).reverse)) q = _ := upd_same
    generalize upd H3 q (.dT (mergeT [] (tabW ws f).reverse)) = H4 at s4 hq1 ⊢
    have s14 : L2.Same H H4 := s1.trans (s2.trans (s3.trans s4))
    have tb := merge_perm (f := f) kw.asc.nodup (List.reverse_perm (pairsW ws))
    rw [← tabW_rev] at tb
    exact mk_kinds hq1 tb kw fun x H5 kn s5 => k x H5 (s14.trans s5) (kn.back s14)
end
end KT
set_option Elab.async false
set_option linter.all false
set_option maxRecDepth 100000
set_option maxHeartbeats 4000000
namespace KT
open PySem L2 PyProof.Rows DTp TxS
section
variable {ws vs : List Str} {f g : Str → Str → Str}
theorem pws_of {x : Str} (k : KW ws f) (hx : x ∈ ws) : ∃ L a, Pws f x L a := by
  classical
  have h5 : ∃ L, L ≤ 4 ∧ ∃ a, a < L ∧ pw f x a = pw f x L := by
    by_cases z : ∃ L, L ≤ 4 ∧ ∃ a, a < L ∧ pw f x a = pw f x L
    · exact z
    · have nd : ((List.range 5).map (pw f x)).Nodup := by
        refine List.pairwise_map.mpr ?_
        refine List.Pairwise.imp_of_mem (R := (· < ·)) (fun {a b} ha hb hab e => z ⟨b, by have := List.mem_range.mp hb; omega, a, hab, e⟩) List.pairwise_lt_range
      have := List.Nodup.length_le_of_subset nd (l₂ := ws) fun y hy => by
        obtain ⟨i, _, rfl⟩ := List.mem_map.mp hy
        exact pw_mem k hx i
      rw [List.length_map, List.length_range] at this
      have := k.few
      omega
  obtain ⟨L, l4, hL⟩ := h5
  obtain ⟨m, hm, ⟨a, am, ea⟩, lo⟩ := least_of (p := fun L => ∃ a, a < L ∧ pw f x a = pw f x L) L hL
  exact ⟨m, a, am, by omega, ea.symm, fun i j hij hj e => lo j hj ⟨i, hij, e⟩⟩
theorem sqs_ne (k : KW ws f) : sqs ws f ≠ [] := by
  obtain ⟨x, hx⟩ : ∃ x, x ∈ ws := List.exists_mem_of_length_pos k.pos
  obtain ⟨L, a, p⟩ := pws_of k hx
  obtain ⟨i, _, e⟩ := p.idem k hx
  intro z
  have m : pw f x i ∈ sqs ws f := List.mem_filter.mpr ⟨pw_mem k hx i, decide_eq_true e⟩
  rw [z] at m
  cases m
theorem putK_new {κ : Type} [DecidableEq κ] {kvs : List (κ × V)} {k : κ} {v : V} (h : k ∉ kvs.map (·.1)) : putK kvs k v = kvs ++ [(k, v)] := by
  unfold putK
  rw [if_neg]
  intro e
  obtain ⟨kv, hkv, e2⟩ := List.any_eq_true.mp e
  exact h (List.mem_map.mpr ⟨kv, hkv, of_decide_eq_true e2⟩)
end
end KT
set_option Elab.async false
set_option linter.all false
set_option maxRecDepth 100000
set_option maxHeartbeats 8000000
namespace KT
open PySem L2 PyProof.Rows DTp TxS
section
variable {P : Program} {w : World} {K : PySem.W.Frag} {mg : Str → Option Value} {base : Heap} {C : Addr}
theorem Same.mut {H H1 : Hp} {p : Addr} {o : HO} (s : L2.Same H H1) (h : H p = none) : L2.Same H (upd H1 p o) := fun b u e => by
  rw [upd_ne (ne_of_none e h)]
  exact s _ _ e
theorem KdIn.but {C : Addr} {H H' : Hp} {z x dx d l : Addr} {ws : List Str} {f : Str → Str → Str} (h : KdIn C H x dx d l ws f) (b : But z H H') (n1 : x ≠ z) (n2 : d ≠ z) (n3 : l ≠ z) : KdIn C H' x dx d l ws f := ⟨b x _ n1 h.ob, b d _ n2 h.dc, b l _ n3 h.ls, h.kw⟩
theorem tyX_mono {K : PySem.W.Frag} {H H' : Hp} {x : V} {t : Value} (s : L2.Same H H') (h : TyX K H x t) : TyX K H' x t := by
  cases h with
  | base b =>
    refine .base ?_
    cases b with
    | non => exact .non
    | bl x => exact .bl x
    | int i => exact .int i
    | str x => exact .str x
    | flt x => exact .flt x
    | lst e => exact .lst (s _ _ e)
    | frz e => exact .frz (s _ _ e)
    | tup e => exact .tup (s _ _ e)
    | dK e => exact .dK (s _ _ e)
    | dT e => exact .dT (s _ _ e)
    | ins e cl ha hn htk hm => exact .ins (s _ _ e) cl ha hn htk hm
  | byt b => exact .byt b
  | set e => exact .set (s _ _ e)
  | kList e c => exact .kList e c
  | kTuple e c => exact .kTuple e c
  | kDict e c => exact .kDict e c
  | fTuple e => exact .fTuple (s _ _ e)
  | fDict e => exact .fDict (s _ _ e)
/-- others than the Kinds of f over ws -/
def Oth (K : PySem.W.Frag) (C : Addr) (ws : List Str) (f : Str → Str → Str) (H : Hp) (x : V) : Prop := (∃ q ws2 f2, x = .ref q ∧ KdAt C H q ws2 f2 ∧ sameT (tabW ws f) (tabW ws2 f2) = false) ∨ ∃ t ∈ ["NoneType", "int", "dict", "list", "tuple"], TyX K H x (.type t)
theorem Oth.mono {ws : List Str} {f : Str → Str → Str} {H H' : Hp} {x : V} (s : L2.Same H H') (h : Oth K C ws f H x) : Oth K C ws f H' x := by
  rcases h with ⟨q, ws2, f2, e, kd, n⟩ | ⟨t, m, ty⟩
  · exact .inl ⟨q, ws2, f2, e, kd.mono s, n⟩
  · exact .inr ⟨t, m, tyX_mono s ty⟩
theorem dpAll_strs {H : Hp} : ∀ L : List Str, DpAll K H (L.map V.str) (L.map PyData.str)
  | [] => .nil
  | x :: L => .cons (.str x) (dpAll_strs L)
theorem dp_strs {H : Hp} {a : Addr} {L : List Str} (h : SqL K H a (L.map V.str)) : Dp K H (.ref a) (.list (L.map PyData.str)) := .lst h (dpAll_strs L)
theorem lay_strs : ∀ L : List Str, (∀ x ∈ L, Wd x) → PyData.canLayAll0 (L.map PyData.str) = true
  | [], _ => rfl
  | x :: L, h => by
    simp only [List.map_cons, PyData.canLayAll0, PyData.canLay0, Bool.and_eq_true]
    refine ⟨?_, lay_strs L fun y hy => h y (List.mem_cons_of_mem _ hy)⟩
    unfold PyData.strOk
    rw [Array.all_eq_true_iff_forall_mem]
    intro c hc
    have := (h x List.mem_cons_self).2.2 c (Array.mem_toList_iff.mpr hc)
    exact decide_eq_true (by omega)
theorem depth_strs : ∀ L : List Str, PyData.depthAll (L.map PyData.str) ≤ 2
  | [] => by simp [PyData.depthAll]
  | z :: zs => by
    have h1 := depth_strs zs
    simp only [List.map_cons, PyData.depthAll, PyData.depth]
    omega
theorem shaped_strs (L : List Str) (h : ∀ x ∈ L, Wd x) : SeqAt.shaped (.list (L.map PyData.str)) = true := by
  have h1 := depth_strs L
  have h2 : PyData.depth (.list (L.map PyData.str)) ≤ 64 := by
    simp only [PyData.depth]
    omega
  show (PyData.canLay0 (.list (L.map PyData.str)) && decide (PyData.depth (.list (L.map PyData.str)) ≤ 64)) = true
  rw [Bool.and_eq_true]
  exact ⟨by simp only [PyData.canLay0]; exact lay_strs L h, decide_eq_true h2⟩
end
end KT
set_option Elab.async false
set_option linter.all false
set_option maxRecDepth 100000
set_option maxHeartbeats 4000000
namespace TxS
open PySem PySem.Spec PySem.W PyProof.Rows L2
section
variable {P : Program} {w : World} {A : Around} {E : Value → Shared → Prop} {s : Shared}
/-- a new, empty set -/
abbrev bare (w : World) : Obj := { cls := .type "set", dict := none, data := .set #[] 0 (.fresh 0 0 (!w.params.followText "set-order")) }
end
end TxS
set_option Elab.async false
set_option linter.all false
set_option maxRecDepth 100000
set_option maxHeartbeats 4000000
namespace KT
open PySem L2 PyProof.Rows DTp TxS
def lp (f : Str → Str → Str) : List Str → Str
  | [] => ⟨#[]⟩
  | x :: xs => xs.foldl f x
section
variable {ws : List Str} {f : Str → Str → Str}
theorem lp_snoc {y : Str} {ys : List Str} (h : ys ≠ []) : lp f (ys ++ [y]) = f (lp f ys) y := by
  cases ys with
  | nil => exact absurd rfl h
  | cons x xs =>
    show (xs ++ [y]).foldl f x = f (xs.foldl f x) y
    rw [List.foldl_append]
    rfl
theorem lp_mem (kw : KW ws f) {xs : List Str} (h : ∀ z ∈ xs, z ∈ ws) (n : xs ≠ []) : lp f xs ∈ ws := by
  cases xs with
  | nil => exact absurd rfl n
  | cons x xs => exact foldl_mem kw xs x (h x List.mem_cons_self) fun z hz => h z (List.mem_cons_of_mem _ hz)
end
end KT
set_option Elab.async false
set_option linter.all false
set_option maxRecDepth 100000
set_option maxHeartbeats 4000000
set_option Elab.async false
set_option linter.all false
set_option maxRecDepth 100000
set_option maxHeartbeats 4000000
set_option Elab.async false
set_option linter.all false
set_option maxRecDepth 100000
set_option maxHeartbeats 4000000
namespace OD
open PySem PySem.Spec PyProof.Rows L2
def isLeaf : V → Bool
  | .non => true
  | .bl _ => true
  | .int _ => true
  | .str _ => true
  | _ => false
end OD
set_option Elab.async false
set_option linter.all false
set_option maxRecDepth 100000
set_option maxHeartbeats 4000000
set_option Elab.async false
set_option linter.all false
set_option maxRecDepth 100000
set_option maxHeartbeats 4000000
namespace OD
open PySem PySem.Spec PyProof.Rows L2
/-- what may be a key -/
def KOk (H : Hp) (k : V) : Prop := isLeaf k = true ∨ ∃ t : Addr, k = .ref t ∧ H t = some (.tup [.int 1])
theorem KOk.mono {H H' : Hp} {k : V} (h : KOk H k) (s : ∀ t, H t = some (.tup [.int 1]) → H' t = some (.tup [.int 1])) : KOk H' k := by
  rcases h with h | ⟨t, e, h⟩
  · exact .inl h
  · exact .inr ⟨t, e, s t h⟩
end OD
set_option Elab.async false
set_option linter.all false
set_option maxRecDepth 100000
set_option maxHeartbeats 4000000
set_option pp.maxSteps 900
namespace KT
open PySem L2 PyProof.Rows DTp TxS
/-- what a heap may become -/
structure RelOk (Rel : Hp → Hp → Prop) : Prop where
  refl : ∀ H, Rel H H
  trans : ∀ {H1 H2 H3}, Rel H1 H2 → Rel H2 H3 → Rel H1 H3
  upd : ∀ {H1 H : Hp} {D : Addr} {o : HO}, H1 D = none → Rel H1 H → Rel H1 (upd H D o)
theorem rel_same : RelOk L2.Same where
  refl := fun H _ _ e => e
  trans := fun s t => Same.trans s t
  upd := fun hD s c o e => by rw [upd_ne (ne_of_none e hD)]; exact s _ _ e
def YI {ι : Type} (xs : List ι) (ev : ι → V) : Nat → Hp → V → Hp → Prop := fun i H v H' => H' = H ∧ ∃ x, xs[i]? = some x ∧ v = ev x
theorem walk_LI {ι : Type} {K : PySem.W.Frag} {a : Addr} (xs : List ι) (ev : ι → V) : Walk (Itl K a) xs.length (fun H => SqL K H a (xs.map ev)) (YI xs ev) := by
  have w := walk_list (K := K) (a := a) (xs := xs.map ev)
  rw [List.length_map] at w
  refine w.mono (fun _ h => h) fun i H x H' hi _ h => ⟨h.1, ?_⟩
  have h2 : (xs.map ev)[i]? = some x := h.2
  rw [List.getElem?_map] at h2
  cases e : xs[i]? with
  | none => rw [e] at h2; cases h2
  | some y => rw [e] at h2; exact ⟨y, rfl, (Option.some.inj h2).symm⟩
section
variable {J : It} {n : Nat} {G : Hp → Prop} {ι : Type}
/-- [a value, or a new object, for item in .. if ..] -/
theorem lcQ {xs : List ι} {ev : ι → V} {Rel : Hp → Hp → Prop} (W : Walk J xs.length G (YI xs ev)) (R : RelOk Rel) (p : ι → Bool) (Inv : Nat → Hp → Prop) (F : Hp → ι → V → Prop) {tt : TT} {te : TE} {g : TG} {vs : List Nat} {σ : L2.St} {H1 : Hp} {D : Addr} {Qd : Hp → Prop}
    (few : xs.length ≤ 200000) (hD : H1 D = none) (kp : ∀ {H H' : Hp} {o : HO}, Rel H H' → H D = some o → H' D = some o) (fm : ∀ {H H' : Hp} {x : ι} {v : V}, Rel H H' → F H x v → F H' x v) (fu : ∀ {H : Hp} {x : ι} {v : V} {o : HO}, F H x v → F (upd H D o) x v) (iu : ∀ {i : Nat} {H : Hp} {o : HO}, Inv i H → Inv i (upd H D o)) (i0 : Inv 0 H1) (stay : ∀ H', Rel H1 H' → G H')
    (step : ∀ (i : Nat) (x : ι) (H2 : Hp) (Y : VK) (N : Hp → Prop), xs[i]? = some x → Rel H1 H2 → Inv i H2 → (∃ o, H2 D = some o) → (p x = true → ∀ v H3, Rel H2 H3 → Inv (i + 1) H3 → F H3 x v → Y v H3) → (p x = false → ∀ H3, Rel H2 H3 → Inv (i + 1) H3 → N H3) →
      g (ev x) (wipe σ vs) H2 fun σ2 H3 => wipe σ2 vs = wipe σ vs ∧ tt σ2 H3 fun b H4 => if b = true then te σ2 H4 Y else N H4)
    (k : ∀ (L : List (ι × V)) (H' : Hp), Rel H1 H' → Inv xs.length H' → L.map (·.1) = xs.filter p → H' D = some (.lst (L.map (·.2))) → (∀ q ∈ L, F H' q.1 q.2) → Qd H') :
    ∃ W : Nat → Nat → Hp → Prop, (∃ m, W 0 m (upd H1 D (.lst []))) ∧ ∀ i m H, W i m H →
      (J.stop i H ∧ Qd H) ∨ (J.go i H ∧ ∃ Nx : Hp → Prop, (∀ H', Nx H' → ∃ m', m' < m ∧ W (i + 1) m' H') ∧ ∀ x H', J.yld i H x H' → g x (wipe σ vs) H' fun σ2 H2 => wipe σ2 vs = wipe σ vs ∧ tt σ2 H2 fun b H3 =>
        if b = true then te σ2 H3 fun y H4 => ∃ acc, H4 D = some (.lst acc) ∧ acc.length < sizeLine ∧ Nx (upd H4 D (.lst (acc ++ [y]))) else Nx H3) := by
  refine lc_it W (fun i H' => Rel H1 H' ∧ Inv i H' ∧ ∃ L : List (ι × V), L.map (·.1) = (xs.take i).filter p ∧ H' D = some (.lst (L.map (·.2))) ∧ ∀ q ∈ L, F H' q.1 q.2) ⟨R.upd hD (R.refl _), iu i0, [], rfl, upd_same, fun q h => by cases h⟩ (fun i H' _ h => stay H' h.1) (fun i x0 H0 H2 hi h y => ?_) (fun H' h => ?_)
  · obtain ⟨s2, iv, L, eL, hD2, fa⟩ := h
    obtain ⟨rfl, x, ex, rfl⟩ := y
    have lL : L.length ≤ 200000 := by
      have := congrArg List.length eL
      rw [List.length_map] at this
      rw [this]
      exact Nat.le_trans (List.length_filter_le _ _) (by rw [List.length_take]; omega)
    refine step i x H2 _ _ ex s2 iv ⟨_, hD2⟩ (fun e v H3 s3 iv3 hF => ?_) (fun e H3 s3 iv3 => ?_)
    · refine ⟨_, kp s3 hD2, by rw [List.length_map]; rw [sizeLine_eq]; omega, R.upd hD (R.trans s2 s3), iu iv3, L ++ [(x, v)], ?_, by rw [upd_same, List.map_append]; rfl, fun q hq => ?_⟩
      · rw [List.map_append, eL, take_next' ex, List.filter_append, List.filter_cons_of_pos (p := p) (by exact e)]; rfl
      · rcases List.mem_append.mp hq with hq | hq
        · exact fu (fm s3 (fa q hq))
        · rw [List.mem_singleton.mp hq]
          exact fu hF
    · refine ⟨R.trans s2 s3, iv3, L, ?_, kp s3 hD2, fun q hq => fm s3 (fa q hq)⟩
      rw [eL, take_next' ex, List.filter_append, List.filter_cons_of_neg (p := p) (by rw [e]; exact Bool.false_ne_true)]
      rw [List.filter_nil, List.append_nil]
  · obtain ⟨s2, iv, L, eL, hD2, fa⟩ := h
    rw [List.take_length] at eL
    exact k L H' s2 iv eL hD2 fa
/-- [a value for item in .. if ..] -/
theorem lcV {xs : List ι} {ev : ι → V} (W : Walk J xs.length G (YI xs ev)) (p : ι → Bool) (ov : ι → V) {tt : TT} {te : TE} {g : TG} {vs : List Nat} {σ : L2.St} {H1 : Hp} {D : Addr} {Qd : Hp → Prop} (few : xs.length ≤ 200000) (hD : H1 D = none) (stay : ∀ H', L2.Same H1 H' → G H')
    (step : ∀ (i : Nat) (x : ι) (H2 : Hp) (Y : VK) (N : Hp → Prop), xs[i]? = some x → L2.Same H1 H2 → (p x = true → ∀ H3, L2.Same H2 H3 → Y (ov x) H3) → (p x = false → ∀ H3, L2.Same H2 H3 → N H3) →
      g (ev x) (wipe σ vs) H2 fun σ2 H3 => wipe σ2 vs = wipe σ vs ∧ tt σ2 H3 fun b H4 => if b = true then te σ2 H4 Y else N H4)
    (k : ∀ H' : Hp, L2.Same H1 H' → H' D = some (.lst ((xs.filter p).map ov)) → Qd H') :
    ∃ W : Nat → Nat → Hp → Prop, (∃ m, W 0 m (upd H1 D (.lst []))) ∧ ∀ i m H, W i m H →
      (J.stop i H ∧ Qd H) ∨ (J.go i H ∧ ∃ Nx : Hp → Prop, (∀ H', Nx H' → ∃ m', m' < m ∧ W (i + 1) m' H') ∧ ∀ x H', J.yld i H x H' → g x (wipe σ vs) H' fun σ2 H2 => wipe σ2 vs = wipe σ vs ∧ tt σ2 H2 fun b H3 =>
        if b = true then te σ2 H3 fun y H4 => ∃ acc, H4 D = some (.lst acc) ∧ acc.length < sizeLine ∧ Nx (upd H4 D (.lst (acc ++ [y]))) else Nx H3) :=
  lcQ W rel_same p (fun _ _ => True) (fun _ x v => v = ov x) few hD (fun s e => s _ _ e) (fun _ e => e) (fun e => e) (fun h => h) trivial stay
    (fun i x H2 Y N ex s _ _ kY kN => step i x H2 Y N ex s (fun e H3 s3 => kY e _ H3 s3 trivial rfl) (fun e H3 s3 => kN e H3 s3 trivial))
    (fun L H' s _ eL hD' fa => k H' s (by
      rw [hD', ← eL, List.map_map]
      exact congrArg (fun z => some (HO.lst z)) (List.map_congr_left fun q hq => fa q hq)))
end
end KT
set_option Elab.async false
set_option linter.all false
set_option maxRecDepth 100000
set_option maxHeartbeats 4000000
set_option pp.maxSteps 900
namespace TxS
open PySem PySem.Spec PyProof.Rows L2
end TxS
namespace KT
open PySem L2 PyProof.Rows DTp TxS
/-- a value read, what it is said of it alone -/
def tCutE (te : TE) : TE := fun σ H Q => ∃ Mid : V → Hp → Prop, te σ H Mid ∧ ∀ v H', Mid v H' → Q v H'
theorem pe_cutE {X : Cx} {e : Expr} {t : TE} (he : PE X e t) : PE X e (tCutE t) := ⟨fun pins s σ H Q I h => by
  obtain ⟨Mid, h1, h2⟩ := h
  exact wpAny_mono (he.run pins s σ H _ I h1) (fun v s' ⟨x, H', I', r, q⟩ => ⟨x, H', I', r, h2 _ _ q⟩) fun _ _ e => e⟩
theorem none_back {H H' : Hp} {a : Addr} (s : L2.Same H H') (h : H' a = none) : H a = none := by
  cases e : H a with
  | none => rfl
  | some o => rw [s _ _ e] at h; cases h
end KT
set_option Elab.async false
set_option linter.all false
set_option maxRecDepth 100000
set_option maxHeartbeats 4000000
namespace KT
open PySem L2 PyProof.Rows DTp TxS
section
variable {ws : List Str} {f : Str → Str → Str}
/-- the kind of the stretch of two points -/
def btw (f : Str → Str → Str) (ks : List Str) (p : Ix) : Str := lp f ((ks.take p.2).drop p.1)
theorem btw_mem (kw : KW ws f) {ks : List Str} (h : ∀ z ∈ ks, z ∈ ws) {i j : Nat} (hij : i < j) (hj : j ≤ ks.length) : btw f ks (i, j) ∈ ws := by
  refine lp_mem kw (fun z hz => h z (List.mem_of_mem_take (List.mem_of_mem_drop hz))) fun e => ?_
  have := congrArg List.length e
  rw [List.length_drop, List.length_take, List.length_nil] at this
  omega
end
end KT
set_option Elab.async false
set_option linter.all false
set_option maxRecDepth 100000
set_option maxHeartbeats 4000000
set_option pp.maxSteps 900
namespace KT
open PySem L2 PyProof.Rows DTp TxS
/-- the kinds of all stretches of a row of kinds, in a dict -/
def StrTb (f : Str → Str → Str) (ks : List Str) (kvs : List (List Key × V)) : Prop := TbG (fun p : Ix => p.1 < p.2 ∧ p.2 ≤ ks.length) keyI (fun p => V.str (btw f ks p)) kvs
theorem btw_one {f : Str → Str → Str} {ks : List Str} {i : Nat} (hi : i < ks.length) : btw f ks (i, i + 1) = ks[i] := by
  unfold btw
  rw [List.drop_take, show i + 1 - i = 1 by omega, List.drop_eq_getElem_cons hi, List.take_succ_cons, List.take_zero]
  rfl
theorem btw_more {f : Str → Str → Str} {ks : List Str} {i j : Nat} (hij : i < j) (hj : j < ks.length) : btw f ks (i, j + 1) = f (btw f ks (i, j)) ks[j] := by
  unfold btw
  have e : (ks.take (j + 1)).drop i = (ks.take j).drop i ++ [ks[j]] := by
    rw [List.take_succ_eq_append_getElem hj, List.drop_append_of_le_length (by rw [List.length_take]; omega)]
  show lp f ((ks.take (j + 1)).drop i) = _
  rw [e, lp_snoc]
  intro z
  have := congrArg List.length z
  rw [List.length_drop, List.length_take, List.length_nil] at this
  omega
theorem ix_len {S : Ix → Prop} {val : Ix → V} {kvs : List (List Key × V)} {n : Nat} (h : TbG S keyI val kvs) (k : ∀ p, S p → p.1 ≤ n ∧ p.2 ≤ n) : kvs.length ≤ (n + 1) * (n + 1) := by
  have q := h.len ((List.range (n + 1)).flatMap fun x => (List.range (n + 1)).map fun y => (x, y)) fun p hp => List.mem_flatMap.mpr ⟨p.1, List.mem_range.mpr (by have := (k p hp).1; omega), List.mem_map.mpr ⟨p.2, List.mem_range.mpr (by have := (k p hp).2; omega), rfl⟩⟩
  have e : ((List.range (n + 1)).flatMap fun x => (List.range (n + 1)).map fun y => (x, y)).length = (n + 1) * (n + 1) := by
    have : ∀ (L : List Nat), (L.flatMap fun x => (List.range (n + 1)).map fun y => (x, y)).length = L.length * (n + 1) := by
      intro L
      induction L with
      | nil => simp
      | cons a L ih => rw [List.flatMap_cons, List.length_append, ih, List.length_map, List.length_range, List.length_cons, Nat.succ_mul, Nat.add_comm]
    rw [this, List.length_range]
  omega
section
variable {P : Program} {w : World} {K : PySem.W.Frag} {mg : Str → Option Value} {base : Heap} {C S : Addr}
def spStretch (C : Addr) : Sp := fun vs H Q _ => ∃ (p r : Addr) (ws : List Str) (f : Str → Str → Str) (ks : List Str), vs = [.ref p, .ref r] ∧ KdAt C H p ws f ∧ H r = some (.lst (ks.map V.str)) ∧ ks.length ≤ 100 ∧ (∀ z ∈ ks, z ∈ ws) ∧
  ∀ q kvs H', L2.Same H H' → H q = none → H' q = some (.dT kvs) → StrTb f ks kvs → Q (.ref q) H'
abbrev nStretch : List Str := ["kinds", "row", "table", "found", "first", "kind", "last"]
theorem scStretch : FnScope nStretch ["kinds", "row"] (defScope pStretch) := ⟨rfl, rfl, rfl, by decide +kernel, rfl, by decide +kernel, by decide +kernel⟩
theorem ok_stretch {g : Addr} {fd : FuncData} (F : Fun K "stretch_kinds" "stretch_kinds" pStretch g fd) (T : KTx K mg C) (B0 : Blt mg) (M : Mee P w K mg base C 1 "table" ["self"] (spKTable C)) : FnOk P w K mg base CX0 2 g fd ["kinds", "row"] (spStretch C) := by
  refine F.ok scStretch (fun vs H Q E h => ?_) (fun cdv A outer s H vs Q E hr h => ?_)
  · obtain ⟨p, r, ws, f, ks, rfl, _⟩ := h
    rfl
  · obtain ⟨p, r, ws, f, ks, rfl, kd, hr0, few, mk, k⟩ := h
    have nd := scStretch.nd
    have kw : KW ws f := let ⟨_, _, _, q⟩ := kd; q.kw
    have ndw := kw.asc.nodup
    refine ⟨_, pss_cons (ps_set (i := 2) nd rfl (Or.inl rfl) (pe_m0 M T.cl hr (pv 0)))
      (pss_cons (ps_set (i := 3) nd rfl (Or.inl rfl) pe_dnewT)
      (pss_cons (ps_for PassesOwn.never rfl (pi_range1 rfl B0.range (pa_cons (pe_callB call_len_seq (by rfl) B0.len PySem.boot_len (pa_cons (pv 1) pa_nil)) pa_nil)) (pg_name (i := 4) nd rfl (Or.inl rfl))
        (pss_cons (ps_set (i := 5) nd rfl (Or.inl rfl) (pe_ix ix_list (pv 1) (pv 4) (fun _ _ => rfl)))
        (pss_cons (ps_dput (hu_of hr) (pv 3) (pe_tup (pa_cons (pv 4) (pa_cons (pe_op op_add (pv 4) pe_int) pa_nil))) (pv 5) rfl)
        (pss_one (ps_for PassesOwn.never rfl (pi_range2 rfl B0.range (pa_cons (pe_op op_add (pv 4) pe_int) (pa_cons (pe_op op_add (pe_callB call_len_seq (by rfl) B0.len PySem.boot_len (pa_cons (pv 1) pa_nil)) pe_int) pa_nil))) (pg_name (i := 6) nd rfl (Or.inl rfl))
          (pss_cons (ps_set (i := 5) nd rfl (Or.inl rfl) (pe_dget (hu_of hr) (pv 2) (pe_tup (pa_cons (pv 5) (pa_cons (pe_ix ix_list (pv 1) (pe_op op_sub (pv 6) pe_int) (fun _ _ => rfl)) pa_nil))) (fun _ _ => rfl)))
          (pss_one (ps_dput (hu_of hr) (pv 3) (pe_tup (pa_cons (pv 4) (pa_cons (pv 6) pa_nil))) (pv 5) rfl))))))))
      (pss_one (ps_ret (pv 3))))), ?_⟩
    obtain ⟨px, pd, pl, kin⟩ := id kd
    refine ⟨_, rfl, p, px, _, rfl, kin.ob, flds_no _ _ (by decide +kernel) (by decide +kernel), p, ws, f, rfl, kd, fun td H1 s1 htd0 htd => ?_⟩
    refine at_name (σ' := [some (.ref p), some (.ref r), some (.ref td), none, none, none, none]) rfl ?_
    refine fun du hdu0 => ?_
    have s2 := Same.new (H := H1) (o := .dT []) hdu0
    have hdu : upd H1 du (.dT []) du = _ := upd_same
    generalize upd H1 du (.dT []) = H2 at s2 hdu ⊢
    refine at_name (σ' := [some (.ref p), some (.ref r), some (.ref td), some (.ref du), none, none, none]) rfl ?_
    have hr1 := s1 _ _ hr0
    refine ⟨_, rfl, r, _, rfl, .inl (SqL.of (s2 _ _ hr1)), _, rfl, by rw [List.length_map]; omega, by rw [List.length_map]; omega, ?_⟩
    have en : (((ks.map V.str).length : Nat) : Int).toNat = ks.length := by rw [List.length_map]; omega
    rw [en]
    have tdW : TabW H1 td ws f := ⟨_, .inl htd, tabW_tb ndw⟩
    refine for_range (lo := 0) (n := ks.length) (fun i σ H' => ∃ (x4 x5 x6 : Option V) (kvs : List (List Key × V)), σ = [some (.ref p), some (.ref r), some (.ref td), some (.ref du), x4, x5, x6] ∧ L2.Same H1 H' ∧ H' du = some (.dT kvs) ∧ TbG (fun p : Ix => p.1 < i ∧ p.1 < p.2 ∧ p.2 ≤ ks.length) keyI (fun p => V.str (btw f ks p)) kvs) ?_ ?_ ?_
    · exact ⟨_, _, _, [], rfl, s2, hdu, TbG.nil.congr fun p => by simp⟩
    · rintro i σ H3 hi ⟨x4, x5, x6, kvs, rfl, s3, hdu3, tb⟩
      rw [show (0 : Int) + (i : Nat) = (i : Nat) by omega]
      refine at_name (σ' := [some (.ref p), some (.ref r), some (.ref td), some (.ref du), some (.int (i : Nat)), x5, x6]) rfl ?_
      have ix : ∀ {j : Nat} (hj : j < ks.length), (ks.map V.str)[j]? = some (.str ks[j]) := fun hj => by rw [List.getElem?_map, List.getElem?_eq_getElem hj]; rfl
      refine ⟨_, rfl, _, rfl, r, _, _, _, rfl, rfl, SqL.of (s3 _ _ hr1), atI_nat (j := i) (ix hi), ?_⟩
      rw [← btw_one (f := f) hi]
      refine at_name (σ' := [some (.ref p), some (.ref r), some (.ref td), some (.ref du), some (.int (i : Nat)), some (.str (btw f ks (i, i + 1))), x6]) rfl ?_
      refine ⟨_, rfl, _, rfl, _, rfl, _, rfl, _, _, rfl, rfl, (by show 2 ≤ sizeLine; decide), fun t1 ht10 => ?_⟩
      dsimp only
      rw [show ((i : Nat) : Int) + 1 = ((i + 1 : Nat) : Int) by omega]
      have s4 := Same.new (H := H3) (o := .tup [.int (i : Nat), .int (i + 1 : Nat)]) ht10
      have ht1 : upd H3 t1 (.tup [.int (i : Nat), .int (i + 1 : Nat)]) t1 = _ := upd_same
      generalize upd H3 t1 (.tup [.int (i : Nat), .int (i + 1 : Nat)]) = H4 at s4 ht1 ⊢
      have lkv := ix_len (n := 100) tb fun p hp => by omega
      refine ⟨du, _, rfl, DPut.t (k := keyI (i, i + 1)) (s4 _ _ hdu3) ht1 (by rw [sizeLine_eq]; omega), ?_⟩
      have tb5 := tb.put keyI_inj (i, i + 1)
      have s5 : L2.Same H1 (upd H4 du (.dT (putK kvs (keyI (i, i + 1)) (V.str (btw f ks (i, i + 1)))))) := Same.mut (s3.trans s4) hdu0
      have hdu5 : upd H4 du (.dT (putK kvs (keyI (i, i + 1)) (V.str (btw f ks (i, i + 1))))) du = _ := upd_same
      generalize upd H4 du (.dT (putK kvs (keyI (i, i + 1)) (V.str (btw f ks (i, i + 1))))) = H5 at s5 hdu5 ⊢
      generalize putK kvs (keyI (i, i + 1)) (V.str (btw f ks (i, i + 1))) = kvs2 at tb5 hdu5 ⊢
      refine ⟨_, rfl, _, _, rfl, rfl, _, rfl, r, _, rfl, .inl (SqL.of (s5 _ _ hr1)), _, _, rfl, rfl, _, _, rfl, ⟨by omega, by omega, by rw [List.length_map]; omega, by rw [List.length_map]; omega⟩, ?_⟩
      have en2 : ((((ks.map V.str).length : Nat) : Int) + 1 - (((i : Nat) : Int) + 2)).toNat = ks.length - (i + 1) := by rw [List.length_map]; omega
      rw [en2]
      refine for_range (lo := ((i : Nat) : Int) + 2) (n := ks.length - (i + 1)) (fun d σ H' => ∃ (x6 : Option V) (kvs : List (List Key × V)), σ = [some (.ref p), some (.ref r), some (.ref td), some (.ref du), some (.int (i : Nat)), some (.str (btw f ks (i, i + 1 + d))), x6] ∧ L2.Same H1 H' ∧ H' du = some (.dT kvs) ∧ TbG (fun p : Ix => (p.1 < i ∧ p.1 < p.2 ∧ p.2 ≤ ks.length) ∨ (p.1 = i ∧ i < p.2 ∧ p.2 ≤ i + 1 + d)) keyI (fun p => V.str (btw f ks p)) kvs) ?_ ?_ ?_
      · refine ⟨_, kvs2, rfl, s5, hdu5, tb5.congr fun p => ⟨fun h => ?_, fun h => ?_⟩⟩
        · rcases h with h | rfl
          · exact .inl h
          · exact .inr ⟨rfl, by show i < i + 1; omega, by show i + 1 ≤ i + 1 + 0; omega⟩
        · rcases h with h | ⟨h1, h2, h3⟩
          · exact .inl h
          · exact .inr (Prod.ext h1 (by show p.2 = i + 1; omega))
      · rintro d σ H6 hd ⟨x6, kvs3, rfl, s6, hdu6, tb6⟩
        rw [show ((i : Nat) : Int) + 2 + (d : Nat) = ((i + 1 + d + 1 : Nat) : Int) by omega]
        refine at_name (σ' := [some (.ref p), some (.ref r), some (.ref td), some (.ref du), some (.int (i : Nat)), some (.str (btw f ks (i, i + 1 + d))), some (.int (i + 1 + d + 1 : Nat))]) rfl ?_
        have hj : i + 1 + d < ks.length := by omega
        have ixd : ((i + 1 + d + 1 : Nat) : Int) - 1 = ((i + 1 + d : Nat) : Int) := by omega
        refine ⟨_, rfl, _, rfl, _, rfl, _, rfl, _, _, rfl, rfl, r, _, ((i + 1 + d + 1 : Nat) : Int) - 1, _, rfl, rfl, SqL.of (s6 _ _ hr1), by rw [ixd]; exact atI_nat (j := i + 1 + d) (ix hj), (by show 2 ≤ sizeLine; decide), fun t2 ht20 => ?_⟩
        have s7 := Same.new (H := H6) (o := .tup [.str (btw f ks (i, i + 1 + d)), .str ks[i + 1 + d]]) ht20
        have ht2 : upd H6 t2 (.tup [.str (btw f ks (i, i + 1 + d)), .str ks[i + 1 + d]]) t2 = _ := upd_same
        generalize upd H6 t2 (.tup [.str (btw f ks (i, i + 1 + d)), .str ks[i + 1 + d]]) = H7 at s7 ht2 ⊢
        have s17 : L2.Same H1 H7 := s6.trans s7
        refine ⟨td, _, rfl, (tdW.mono s17).get (btw_mem kw mk (by omega) (by omega)) (mk _ (List.getElem_mem hj)) ht2, ?_⟩
        rw [← btw_more (f := f) (by omega) hj]
        refine at_name (σ' := [some (.ref p), some (.ref r), some (.ref td), some (.ref du), some (.int (i : Nat)), some (.str (btw f ks (i, i + 1 + d + 1))), some (.int (i + 1 + d + 1 : Nat))]) rfl ?_
        refine ⟨_, rfl, _, rfl, _, rfl, _, rfl, (by show 2 ≤ sizeLine; decide), fun t3 ht30 => ?_⟩
        have s8 := Same.new (H := H7) (o := .tup [.int (i : Nat), .int (i + 1 + d + 1 : Nat)]) ht30
        have ht3 : upd H7 t3 (.tup [.int (i : Nat), .int (i + 1 + d + 1 : Nat)]) t3 = _ := upd_same
        generalize upd H7 t3 (.tup [.int (i : Nat), .int (i + 1 + d + 1 : Nat)]) = H8 at s8 ht3 ⊢
        have lkv3 := ix_len (n := 100) tb6 fun p hp => by omega
        refine ⟨du, _, rfl, DPut.t (k := keyI (i, i + 1 + d + 1)) (s8 _ _ (s7 _ _ hdu6)) ht3 (by rw [sizeLine_eq]; omega), ?_⟩
        refine ⟨_, _, rfl, Same.mut (s17.trans s8) hdu0, upd_same, (tb6.put keyI_inj (i, i + 1 + d + 1)).congr fun p => ⟨fun h => ?_, fun h => ?_⟩⟩
        · rcases h with (h | ⟨h1, h2, h3⟩) | rfl
          · exact .inl h
          · exact .inr ⟨h1, h2, by omega⟩
          · exact .inr ⟨rfl, by show i < i + 1 + d + 1; omega, by show i + 1 + d + 1 ≤ i + 1 + (d + 1); omega⟩
        · rcases h with h | ⟨h1, h2, h3⟩
          · exact .inl (.inl h)
          · by_cases e : p.2 = i + 1 + d + 1
            · exact .inr (Prod.ext h1 e)
            · exact .inl (.inr ⟨h1, h2, by omega⟩)
      · rintro σ H6 ⟨x6, kvs3, rfl, s6, hdu6, tb6⟩
        refine ⟨_, _, _, kvs3, rfl, s6, hdu6, tb6.congr fun p => ⟨fun h => ?_, fun h => ?_⟩⟩
        · rcases h with h | ⟨h1, h2, h3⟩
          · exact ⟨by omega, h.2⟩
          · exact ⟨by omega, by omega, by omega⟩
        · obtain ⟨h1, h2, h3⟩ := h
          by_cases e : p.1 = i
          · exact .inr ⟨e, by omega, by omega⟩
          · exact .inl ⟨by omega, h2, h3⟩
    · rintro σ H3 ⟨x4, x5, x6, kvs, rfl, s3, hdu3, tb⟩
      exact ⟨_, rfl, k du kvs H3 (s1.trans s3) (s1.free hdu0) hdu3 (tb.congr fun p => ⟨fun h => h.2, fun h => ⟨by omega, h⟩⟩)⟩
end
end KT
set_option Elab.async false
set_option linter.all false
set_option maxRecDepth 100000
set_option maxHeartbeats 2000000
set_option pp.maxSteps 900
namespace KT
open PySem L2 PyProof.Rows DTp TxS
section
variable {f : Str → Str → Str} {ks : List Str} {x : Str}
def stepB (f : Str → Str → Str) (ks : List Str) (x : Str) (g : Nat → Nat) (j n : Nat) : Nat := (List.range n).foldl (fun m i => if btw f ks (i, j) = x then max m (g i + 1) else m) 0
def bl (f : Str → Str → Str) (ks : List Str) (x : Str) : Nat → List Nat
  | 0 => []
  | n + 1 => bl f ks x n ++ [stepB f ks x (fun i => (bl f ks x n).getD i 0) n n]
theorem bl_len (n : Nat) : (bl f ks x n).length = n := by
  induction n with
  | zero => rfl
  | succ n ih => rw [bl, List.length_append, ih]; rfl
def be (f : Str → Str → Str) (ks : List Str) (x : Str) (j : Nat) : Nat := (bl f ks x (j + 1)).getD j 0
theorem bl_be {n i : Nat} (h : i < n) : (bl f ks x n).getD i 0 = be f ks x i := by
  induction n with
  | zero => omega
  | succ n ih =>
    by_cases c : i = n
    · subst c; rfl
    · rw [bl, List.getD_eq_getElem?_getD, List.getElem?_append_left (by rw [bl_len]; omega), ← List.getD_eq_getElem?_getD]
      exact ih (by omega)
theorem stepB_cg {g g' : Nat → Nat} {j : Nat} : ∀ {n : Nat}, (∀ i, i < n → g i = g' i) → stepB f ks x g j n = stepB f ks x g' j n := fun {n} h => by
  unfold stepB
  induction n with
  | zero => rfl
  | succ n ih =>
    rw [List.range_succ, List.foldl_append, List.foldl_append, ih fun i hi => h i (by omega)]
    show (if btw f ks (n, j) = x then max _ (g n + 1) else _) = (if btw f ks (n, j) = x then max _ (g' n + 1) else _)
    rw [h n (by omega)]
/-- the first n starts looked at, for the end j -/
def pb (f : Str → Str → Str) (ks : List Str) (x : Str) (j n : Nat) : Nat := stepB f ks x (be f ks x) j n
theorem pb_succ (j n : Nat) : pb f ks x j (n + 1) = if btw f ks (n, j) = x then max (pb f ks x j n) (be f ks x n + 1) else pb f ks x j n := by
  unfold pb stepB
  rw [List.range_succ, List.foldl_append]
  rfl
theorem be_eq (j : Nat) : be f ks x j = pb f ks x j j := by
  show (bl f ks x (j + 1)).getD j 0 = _
  have e : bl f ks x (j + 1) = bl f ks x j ++ [stepB f ks x (fun i => (bl f ks x j).getD i 0) j j] := rfl
  have l := bl_len (f := f) (ks := ks) (x := x) j
  rw [e, List.getD_eq_getElem?_getD, List.getElem?_append_right (by omega), l, Nat.sub_self]
  exact stepB_cg fun i hi => bl_be hi
theorem be_zero : be f ks x 0 = 0 := by rw [be_eq]; rfl
theorem pb_le (j : Nat) : ∀ n, (∀ i, i < n → be f ks x i ≤ i) → pb f ks x j n ≤ n := fun n => by
  induction n with
  | zero => intro _; exact Nat.le_refl _
  | succ n ih =>
    intro h
    rw [pb_succ]
    have a := ih fun i hi => h i (by omega)
    have b := h n (by omega)
    split <;> omega
theorem be_le : ∀ j, be f ks x j ≤ j := by
  intro j
  induction j using Nat.strongRecOn with
  | ind j ih => rw [be_eq]; exact pb_le j j ih
/-- the greatest of them up to n -/
def mxB (f : Str → Str → Str) (ks : List Str) (x : Str) (n : Nat) : Nat := (List.range (n + 1)).foldl (fun m j => max m (be f ks x j)) 0
theorem fold_max {α : Type} (g : α → Nat) : ∀ (l : List α) (a : Nat), a ≤ l.foldl (fun m j => max m (g j)) a ∧ (∀ j ∈ l, g j ≤ l.foldl (fun m j => max m (g j)) a) ∧ (l.foldl (fun m j => max m (g j)) a = a ∨ ∃ j ∈ l, l.foldl (fun m j => max m (g j)) a = g j)
  | [], a => ⟨Nat.le_refl _, fun j h => (by cases h), .inl rfl⟩
  | b :: l, a => by
    obtain ⟨h1, h2, h3⟩ := fold_max g l (max a (g b))
    rw [List.foldl_cons]
    refine ⟨by omega, fun j hj => ?_, ?_⟩
    · rcases List.mem_cons.mp hj with rfl | hj
      · omega
      · exact h2 j hj
    · rcases h3 with h3 | ⟨j, hj, h3⟩
      · rw [h3]
        by_cases c : a ≤ g b
        · exact .inr ⟨b, List.mem_cons_self, by omega⟩
        · exact .inl (by omega)
      · exact .inr ⟨j, List.mem_cons_of_mem _ hj, h3⟩
theorem mxB_ge {n j : Nat} (h : j ≤ n) : be f ks x j ≤ mxB f ks x n := (fold_max (be f ks x) _ 0).2.1 j (List.mem_range.mpr (by omega))
theorem mxB_at (n : Nat) : ∃ j, j ≤ n ∧ mxB f ks x n = be f ks x j := by
  rcases (fold_max (be f ks x) (List.range (n + 1)) 0).2.2 with h | ⟨j, hj, h⟩
  · exact ⟨0, Nat.zero_le _, by rw [be_zero]; exact h⟩
  · exact ⟨j, by have := List.mem_range.mp hj; omega, h⟩
theorem mxB_uniq {n v : Nat} (h1 : ∃ j, j ≤ n ∧ v = be f ks x j) (h2 : ∀ j, j ≤ n → be f ks x j ≤ v) : v = mxB f ks x n := by
  obtain ⟨j, hj, rfl⟩ := h1
  obtain ⟨i, hi, e⟩ := mxB_at (f := f) (ks := ks) (x := x) n
  have a := mxB_ge (f := f) (ks := ks) (x := x) hj
  have b := h2 i hi
  omega
theorem btw_take {i j n : Nat} (h : j ≤ n) : btw f (ks.take n) (i, j) = btw f ks (i, j) := by
  unfold btw
  show lp f (((ks.take n).take j).drop i) = lp f ((ks.take j).drop i)
  rw [List.take_take, Nat.min_eq_left h]
theorem pb_take {n j : Nat} (hj : j ≤ n) : ∀ m, (∀ i, i < m → be f (ks.take n) x i = be f ks x i) → pb f (ks.take n) x j m = pb f ks x j m := fun m => by
  induction m with
  | zero => intro _; rfl
  | succ m ih =>
    intro h
    rw [pb_succ, pb_succ, btw_take hj, ih fun i hi => h i (by omega), h m (by omega)]
theorem be_take {n : Nat} : ∀ j, j ≤ n → be f (ks.take n) x j = be f ks x j := by
  intro j
  induction j using Nat.strongRecOn with
  | ind j ih =>
    intro hj
    rw [be_eq, be_eq]
    exact pb_take hj j fun i hi => ih i hi (by omega)
theorem mxB_take {n m : Nat} (h : n ≤ m) : mxB f (ks.take n) x n ≤ mxB f ks x m := by
  obtain ⟨j, hj, e⟩ := mxB_at (f := f) (ks := ks.take n) (x := x) n
  rw [e, be_take j hj]
  exact mxB_ge (by omega)
end
/-- the most that one own square has -/
def mo (f : Str → Str → Str) (ks : List Str) (sq : List Str) : Nat := sq.foldl (fun m x => max m (mxB f ks x ks.length)) 0
section
variable {f : Str → Str → Str} {ks sq ws : List Str} {x : Str}
theorem mo_uniq {v : Nat} (ne : sq ≠ []) (h1 : ∃ x ∈ sq, v = mxB f ks x ks.length) (h2 : ∀ x ∈ sq, mxB f ks x ks.length ≤ v) : v = mo f ks sq := by
  obtain ⟨a, b, c⟩ := fold_max (fun x => mxB f ks x ks.length) sq 0
  obtain ⟨y, hy, rfl⟩ := h1
  have d := b y hy
  refine Nat.le_antisymm d ?_
  rcases c with c | ⟨z, hz, c⟩
  · exact Nat.le_trans (Nat.le_of_eq c) (Nat.zero_le _)
  · exact Nat.le_trans (Nat.le_of_eq c) (h2 z hz)
theorem mo_take {n : Nat} (h : n ≤ ks.length) : mo f (ks.take n) sq ≤ mo f ks sq := by
  obtain ⟨a, b, c⟩ := fold_max (fun x => mxB f (ks.take n) x (ks.take n).length) sq 0
  obtain ⟨a2, b2, c2⟩ := fold_max (fun x => mxB f ks x ks.length) sq 0
  rcases c with c | ⟨z, hz, c⟩
  · exact Nat.le_trans (Nat.le_of_eq c) (Nat.zero_le _)
  · refine Nat.le_trans (Nat.le_of_eq c) (Nat.le_trans ?_ (b2 z hz))
    have e : (ks.take n).length = n := by rw [List.length_take]; omega
    show mxB f (ks.take n) z (ks.take n).length ≤ _
    rw [e]
    exact mxB_take h
end
end KT
set_option Elab.async false
set_option linter.all false
set_option maxRecDepth 100000
set_option maxHeartbeats 2000000
set_option pp.maxSteps 900
namespace MnK
open PySem PySem.Spec PyProof.Rows L2 LamX
/-- what the key says, whatever it is -/
def TurnOk (X : Cx) (H0 : Hp) (s0 : Shared) (l : Addr) (fv : Value) (xs : List V) (kf : Nat → Int) : Prop :=
  ∀ (S J : Addr) (j : Nat) (x : V) (v : Value) (H : Hp) (s : Shared) (oS oJ : Obj), s0.heap.objs.size ≤ S → s0.heap.objs.size ≤ J → Std X H0 s0 S J l H s → s.heap.get? S = some oS → s.heap.get? J = some oJ → xs[j]? = some x → RelV x v → ∀ (Q E : Value → Shared → Prop),
    (∀ H' s' tk, Std X H0 s0 S J l H' s' → s'.heap.get? S = some oS → s'.heap.get? J = some oJ → Q (.int (kf j) tk) s') → wpAny (model X.prog X.w) X.A.in1 (call fv [v]) Q E s
def BestMax (kf : Nat → Int) (i n : Nat) : Prop := ∀ j, j < n → kf j ≤ kf i ∧ (j < i → kf j < kf i)
theorem name_max : (toString "max" ++ toString ".loop" : String) = "max.loop" := by decide
section
variable {X : Cx} {pins : List (Addr × Obj)} {σ : L2.St} {H0 : Hp} {s0 : Shared} {S J l : Addr} {kid : String} {xs : List V} {kf : Nat → Int} {R : Result → Shared → Prop} {dk : List (Str × Value)}
theorem loop_max (I : Inv X pins σ H0 s0) (hc : X.calm = true) (tO : TurnOk X H0 s0 l (.builtin kid) xs kf) (hl : SqL X.K H0 l xs) (ll : l < s0.heap.objs.size) (fS : s0.heap.objs.size ≤ S) (fJ : s0.heap.objs.size ≤ J) (nSJ : S ≠ J)
    (hR : ∀ i x v H s, xs[i]? = some x → RelV x v → BestMax kf i xs.length → Std X H0 s0 S J l H s → R (.ok (.ret v)) s) :
    ∀ (r j i : Nat) (x : V) (vb : Value) (tb : Tok) (c : Nat) (H : Hp) (s : Shared), xs.length - (j + 1) = r → j + 1 ≤ xs.length → Std X H0 s0 S J l H s → s.heap.get? S = some (seqObj "list" #[vb, .int (kf i) tb] c) → s.heap.IsListIter J l (j + 1) → xs[i]? = some x → RelV x vb → i ≤ j → BestMax kf i (j + 1) →
      codeAny (model X.prog X.w) X.A (.builtin "max.loop" ⟨[.ref J, .builtin kid, .ref S], dk⟩) R s := by
  have nJ0 := gone (h := s0.heap) fJ
  have nS0 := gone (h := s0.heap) fS
  have nlJ : l ≠ J := Nat.ne_of_lt (Nat.lt_of_lt_of_le ll fJ)
  intro r
  induction r with
  | zero =>
    intro j i x vb tb c H s hr hj t hS hit hx rx hij best
    have hin : xs.length = j + 1 := by omega
    obtain ⟨its, rv, pl, hz⟩ := (t.inv I).list (t.same.seq hl)
    have W := Walks.list (prog := X.prog) (w := X.w) (A := X.A.in1) (I.ok.hd hc) J l nlJ its.toArray
    have hsz : its.toArray.size = xs.length := by rw [List.size_toArray, ← rv.length]
    refine codeAny_builtin PySem.F.entry_max_loop ?_
    rw [Around.under_plainId PySem.F.plain_max_loop _]
    show wpAny _ X.A.in1 (seqItems? (.ref S) >>= _) _ _ _
    refine wpAny_bind (wpAny_seqItems hS rfl ?_)
    show wpAny _ X.A.in1 (tryCatch (pyNext (.ref J)) _ >>= _) _ _ _
    refine wpAny_bind (wpAny_tryCatch (W.done _ _ _ ⟨by rw [hsz, hin]; exact hit, pl.isList⟩ fun h' tk' hk' => ?_))
    have kJ : ButA J s.heap h' := fun b o n e => hk' b o (by simpa using n) e
    have t1 := t.but (tk := tk') nJ0 t.nJ kJ
    have hS1 := kJ S _ nSJ hS
    show wpAny _ X.A.in1 (updateSeq S (fun _ => #[]) >>= _) _ _ _
    refine wpAny_bind (wpAny_updateSeq hS1 rfl (wpAny_bind (wpAny_letGo (wpAny_pure ?_))))
    have sb := Heap.SameBut.update h' S (Obj.mapSeq fun _ => (#[] : Array Value))
    exact hR i x vb H _ hx rx (by rw [hin]; exact best) (t1.but (tk := tk') nS0 t1.nS fun b o n e => (sb.2 b n).trans e)
  | succ r ih =>
    intro j i x vb tb c H s hr hj t hS hit hx rx hij best
    have hlt : j + 1 < xs.length := by omega
    obtain ⟨its, rv, pl, hz⟩ := (t.inv I).list (t.same.seq hl)
    have W := Walks.list (prog := X.prog) (w := X.w) (A := X.A.in1) (I.ok.hd hc) J l nlJ its.toArray
    have hsz : its.toArray.size = xs.length := by rw [List.size_toArray, ← rv.length]
    refine codeAny_builtin PySem.F.entry_max_loop ?_
    rw [Around.under_plainId PySem.F.plain_max_loop _]
    show wpAny _ X.A.in1 (seqItems? (.ref S) >>= _) _ _ _
    refine wpAny_bind (wpAny_seqItems hS rfl ?_)
    show wpAny _ X.A.in1 (tryCatch (pyNext (.ref J)) _ >>= _) _ _ _
    refine wpAny_bind (wpAny_tryCatch (W.item (j + 1) _ _ _ (by rw [hsz]; exact hlt) ⟨hit, pl.isList⟩ fun v h' tk' hP hst' hk' => ?_))
    have kJ : ButA J s.heap h' := fun b o n e => hk' b o (by simpa using n) e
    have t1 := t.but (tk := tk') nJ0 t.nJ kJ
    have hS1 := kJ S _ nSJ hS
    obtain ⟨oJ, hoJ, hoc, hod⟩ := id hst'.1
    have hv : its[j + 1]? = some v := by simpa using hP
    obtain ⟨y, hy, ry⟩ : ∃ y, xs[j + 1]? = some y ∧ RelV y v := by
      have e := List.getElem?_eq_getElem hlt
      obtain ⟨u, hu, ru⟩ := rv.get e
      rw [hv] at hu
      cases hu
      exact ⟨_, e, ru⟩
    show wpAny _ X.A.in1 (tryCatch (holding [v] (call (.builtin kid) [v])) _ >>= _) _ _ _
    refine wpAny_bind (wpAny_tryCatch (wpAny_holding (tO S J (j + 1) y v _ _ _ _ fS fJ t1 hS1 hoJ hy ry _ _ fun H2 s2 t2 u2 hS2 hJ2 => ?_)))
    have hit2 : s2.heap.IsListIter J l (j + 1 + 1) := ⟨oJ, hJ2, hoc, hod⟩
    show wpAny _ X.A.in1 (tryCatch (holding [v, .int (kf (j + 1)) t2] (richCompare .Gt (.int (kf (j + 1)) t2) (.int (kf i) tb) >>= _)) _ >>= _) _ _ _
    refine wpAny_bind (wpAny_tryCatch (wpAny_holding (wpAny_bind (CmpOf.ints_gt (prog := X.prog) (w := X.w) (A := X.A.in1) (P := fun i v => ∃ t, v = .int (kf i) t) kf (fun i v h => h) (j + 1) i _ _ _ _ _ ⟨t2, rfl⟩ ⟨tb, rfl⟩ ?_))))
    refine wpAny_bind (wpAny_holding (wpAny_truthy_bool ?_))
    refine wpAny_bind (wpAny_letGo (wpAny_pure ?_))
    by_cases hb : kf (j + 1) > kf i
    · simp only [hb, decide_true, if_true]
      have sb := Heap.SameBut.update s2.heap S (Obj.mapSeq fun _ => #[v, .int (kf (j + 1)) t2])
      obtain ⟨c2, hc2⟩ : ∃ c2, (s2.heap.update S (Obj.mapSeq fun _ => #[v, .int (kf (j + 1)) t2])).get? S = some (seqObj "list" #[v, .int (kf (j + 1)) t2] c2) := ⟨_, get?_update_seq hS2 fun _ => #[v, .int (kf (j + 1)) t2]⟩
      refine wpAny_bind (wpAny_updateSeq hS2 rfl (wpAny_bind (wpAny_letGo ?_)))
      rw [name_max]
      refine wpAny_pure ⟨plainId_quiet PySem.F.plain_max_loop _, ih (j + 1) (j + 1) y v t2 c2 H2 _ (by omega) hlt (u2.but (tk := s2.toks) nS0 u2.nS fun b o n e => (sb.2 b n).trans e) hc2 ⟨oJ, (sb.2 J nSJ.symm).trans hJ2, hoc, hod⟩ hy ry (Nat.le_refl _) fun j' hj' => ?_⟩
      by_cases e : j' = j + 1
      · subst e
        exact ⟨Int.le_refl _, fun h => absurd h (Nat.lt_irrefl _)⟩
      · have q := (best j' (by omega)).1
        exact ⟨by omega, fun _ => by omega⟩
    · simp only [hb, decide_false, Bool.false_eq_true, if_false]
      refine wpAny_bind (wpAny_letGo ?_)
      rw [name_max]
      refine wpAny_pure ⟨plainId_quiet PySem.F.plain_max_loop _, ih (j + 1) i x vb tb c H2 _ (by omega) hlt u2 hS2 hit2 hx rx (by omega) fun j' hj' => ?_⟩
      by_cases e : j' = j + 1
      · subst e
        exact ⟨by omega, fun h => by omega⟩
      · exact best j' (by omega)
end
section
variable {X : Cx} {pins : List (Addr × Obj)} {σ : L2.St} {H0 : Hp} {s0 : Shared} {l : Addr} {kid : String} {xs : List V} {kf : Nat → Int} {Q : Value → Shared → Prop} {E : Value → Shared → Prop} {dk : List (Str × Value)} {kw : List (Str × Value)}
/-- ahead of the loop: the iterator and the list of the best -/
theorem max_go (I : Inv X pins σ H0 s0) (hc : X.calm = true) (hl : SqL X.K H0 l xs) (ll : l < s0.heap.objs.size) (ha : argsOk "max" ⟨[.ref l], kw⟩) (hb : Builtin.Builtins.bindParams "max" ["key", "default"] 0 ⟨[], kw⟩ = pure [some (.builtin kid), dk.head?.map (·.2)]) (hd : (dk.head?.map (·.2)).toList.map (fun d => (Str.ofString "default", d)) = dk)
    (go : ∀ (S J : Addr) (s : Shared), s0.heap.objs.size ≤ S → s0.heap.objs.size ≤ J → S ≠ J → Std X H0 s0 S J l H0 s → s.heap.get? S = some (seqObj "list" #[] 0) → s.heap.IsListIter J l 0 →
      codeAny (model X.prog X.w) X.A (.builtin "max.loop" ⟨[.ref J, .builtin kid, .ref S], dk⟩) (fun r s' => match r with | .ok (.ret v) => Q v s' | .ok _ => False | .error e => E e s') s) :
    wpAny (model X.prog X.w) X.A (call (.builtin "max") [.ref l] kw) Q E s0 := by
  obtain ⟨its, rv, pl, hz⟩ := I.list hl
  refine kmk_tree PySem.F.kind_max PySem.F.plain_max PySem.F.entry_max ha ?_
  show wpAny _ X.A.in1 (Builtin.Builtins.bindParams "max" ["key", "default"] 0 ⟨[], kw⟩ >>= _) _ _ s0
  refine wpAny_bind (wpAny_of_eq hb ?_)
  refine wpAny_bind (wpAny_pure ?_)
  refine wpAny_bind (wpAny_pyIter_list pl.isList ?_)
  refine wpAny_bind (wpAny_newList ?_ (Nat.zero_le _))
  rw [name_max]
  obtain ⟨h1, e1⟩ : ∃ h1, h1 = s0.heap.push { cls := .type "list_iterator", data := .fields #[.ref l, .int 0 0] } := ⟨_, rfl⟩
  have z1 : h1.objs.size = s0.heap.objs.size + 1 := by rw [e1]; exact size_push' ..
  refine wpAny_pure ⟨plainId_quiet PySem.F.plain_max_loop _, ?_⟩
  show codeAny _ _ (.builtin "max.loop" ⟨[.ref s0.heap.objs.size, .builtin kid, .ref (s0.heap.push { cls := .type "list_iterator", data := .fields #[.ref l, .int 0 0] }).objs.size], (dk.head?.map (·.2)).toList.map fun d => (Str.ofString "default", d)⟩) _ { s0 with heap := (s0.heap.push { cls := .type "list_iterator", data := .fields #[.ref l, .int 0 0] }).push (seqObj "list" #[] 0) }
  rw [hd, ← e1]
  have kp : ∀ b o, s0.heap.get? b = some o → (h1.push (seqObj "list" #[] 0)).get? b = some o := fun b o e => Heap.get?_push_of_some _ (by rw [e1]; exact Heap.get?_push_of_some _ e)
  refine go h1.objs.size s0.heap.objs.size _ (by rw [z1]; exact Nat.le_succ _) (Nat.le_refl _) (by rw [z1]; exact Nat.succ_ne_self _) ⟨rfl, I.bare, Un.kept kp, I.hok.kept kp, fun _ _ e => e, I.hok.fresh (by rw [z1]; exact Nat.le_succ _), I.hok.fresh (Nat.le_refl _)⟩ (Heap.get?_push_size _ rfl) ⟨_, Heap.get?_push_of_some _ (by rw [e1]; exact Heap.get?_push_size _ rfl), rfl, rfl⟩
theorem max_some (I : Inv X pins σ H0 s0) (hc : X.calm = true) (tO : TurnOk X H0 s0 l (.builtin kid) xs kf) (hl : SqL X.K H0 l xs) (ll : l < s0.heap.objs.size) (ne : xs ≠ []) (ha : argsOk "max" ⟨[.ref l], kw⟩)
    (hb : Builtin.Builtins.bindParams "max" ["key", "default"] 0 ⟨[], kw⟩ = pure [some (.builtin kid), dk.head?.map (·.2)]) (hd : (dk.head?.map (·.2)).toList.map (fun d => (Str.ofString "default", d)) = dk)
    (hQ : ∀ i x v H s, xs[i]? = some x → RelV x v → BestMax kf i xs.length → L2.Same H0 H → s.os = s0.os → AllBare s.gens → Un (frs X.stack) [] H0 H s0.heap s.heap → HOk X.prog X.w H s.heap → Q v s) :
    wpAny (model X.prog X.w) X.A (call (.builtin "max") [.ref l] kw) Q E s0 := by
  have pos : 0 < xs.length := List.length_pos_iff.mpr ne
  refine max_go I hc hl ll ha hb hd fun S J s fS fJ nSJ t hS hit => ?_
  have nJ0 := gone (h := s0.heap) fJ
  have nS0 := gone (h := s0.heap) fS
  have nlJ : l ≠ J := Nat.ne_of_lt (Nat.lt_of_lt_of_le ll fJ)
  obtain ⟨its, rv, pl, hz⟩ := (t.inv I).list (t.same.seq hl)
  have W := Walks.list (prog := X.prog) (w := X.w) (A := X.A.in1) (I.ok.hd hc) J l nlJ its.toArray
  have hsz : its.toArray.size = xs.length := by rw [List.size_toArray, ← rv.length]
  refine codeAny_builtin PySem.F.entry_max_loop ?_
  rw [Around.under_plainId PySem.F.plain_max_loop _]
  show wpAny _ X.A.in1 (seqItems? (.ref S) >>= _) _ _ _
  refine wpAny_bind (wpAny_seqItems hS rfl ?_)
  show wpAny _ X.A.in1 (tryCatch (pyNext (.ref J)) _ >>= _) _ _ _
  refine wpAny_bind (wpAny_tryCatch (W.item 0 _ _ _ (by rw [hsz]; exact pos) ⟨hit, pl.isList⟩ fun v h' tk' hP hst' hk' => ?_))
  have kJ : ButA J s.heap h' := fun b o n e => hk' b o (by simpa using n) e
  have t1 := t.but (tk := tk') nJ0 t.nJ kJ
  have hS1 := kJ S _ nSJ hS
  obtain ⟨oJ, hoJ, hoc, hod⟩ := id hst'.1
  have hv : its[0]? = some v := by simpa using hP
  obtain ⟨y, hy, ry⟩ : ∃ y, xs[0]? = some y ∧ RelV y v := by
    have e := List.getElem?_eq_getElem pos
    obtain ⟨u, hu, ru⟩ := rv.get e
    rw [hv] at hu
    cases hu
    exact ⟨_, e, ru⟩
  show wpAny _ X.A.in1 (tryCatch (holding [v] (call (.builtin kid) [v])) _ >>= _) _ _ _
  refine wpAny_bind (wpAny_tryCatch (wpAny_holding (tO S J 0 y v _ _ _ _ fS fJ t1 hS1 hoJ hy ry _ _ fun H2 s2 t2 u2 hS2 hJ2 => ?_)))
  have sb := Heap.SameBut.update s2.heap S (Obj.mapSeq fun _ => #[v, .int (kf 0) t2])
  obtain ⟨c2, hc2⟩ : ∃ c2, (s2.heap.update S (Obj.mapSeq fun _ => #[v, .int (kf 0) t2])).get? S = some (seqObj "list" #[v, .int (kf 0) t2] c2) := ⟨_, get?_update_seq hS2 fun _ => #[v, .int (kf 0) t2]⟩
  show wpAny _ X.A.in1 (updateSeq S (fun _ => #[v, .int (kf 0) t2]) >>= _) _ _ _
  refine wpAny_bind (wpAny_updateSeq hS2 rfl ?_)
  rw [name_max]
  refine wpAny_pure ⟨plainId_quiet PySem.F.plain_max_loop _, loop_max I hc tO hl ll fS fJ nSJ (fun i x v H s a b c t => hQ i x v H s a b c t.same t.os t.bare t.un t.hok) _ 0 0 y v t2 c2 H2 _ rfl (by omega) (u2.but (tk := s2.toks) nS0 u2.nS fun b o n e => (sb.2 b n).trans e) hc2 ⟨oJ, (sb.2 J nSJ.symm).trans hJ2, hoc, hod⟩ hy ry (Nat.le_refl _) fun j' hj' => ?_⟩
  have e : j' = 0 := by omega
  subst e
  exact ⟨Int.le_refl _, fun h => absurd h (Nat.lt_irrefl _)⟩
end
end MnK
set_option Elab.async false
set_option linter.all false
set_option maxRecDepth 100000
set_option maxHeartbeats 2000000
set_option pp.maxSteps 900
namespace MnK
open PySem PySem.Spec PyProof.Rows L2 LamX NdefX
theorem args_m1 (a v : Value) : argsOk "max" ⟨[a], [(Str.ofString "key", v)]⟩ := by unfold argsOk; kernel_rfl
theorem turn_len {X : Cx} {pins : List (Addr × Obj)} {σ : L2.St} {H0 : Hp} {s0 : Shared} {l : Addr} {xs : List V} {kf : Nat → Int} (I : Inv X pins σ H0 s0) (h : ∀ (j : Nat) (x : V), xs[j]? = some x → ∃ (a : Addr) (ys : List V), x = .ref a ∧ SqL X.K H0 a ys ∧ kf j = ys.length) :
    TurnOk X H0 s0 l (.builtin "len") xs kf := by
  intro S J j x v H s oS oJ fS fJ t hS hJ hx r Q E q
  obtain ⟨a, ys, rfl, hq, e⟩ := h j x hx
  obtain rfl : v = Value.ref a := r
  obtain ⟨its, rv, pl, hz⟩ := (t.inv I).list (t.same.seq hq)
  have hn := line63
  have hlen := rv.length
  refine Calls.call_len_list pl.isList (by simp only [List.size_toArray] <;> omega) ?_
  have e2 : ((its.toArray.size : Nat) : Int) = kf j := by rw [e, List.size_toArray, hlen]
  rw [e2]
  exact q H _ _ ⟨t.os, t.bare, t.un, t.hok, t.same, t.nS, t.nJ⟩ hS hJ
def tMaxLen (K : PySem.W.Frag) (te : TE) : TE := fun σ H Q => te σ H fun v H1 => ∃ (l : Addr) (xs : List V) (kf : Nat → Int), v = .ref l ∧ SqL K H1 l xs ∧ xs ≠ [] ∧
  (∀ (j : Nat) (x : V), xs[j]? = some x → ∃ (a : Addr) (ys : List V), x = .ref a ∧ SqL K H1 a ys ∧ kf j = ys.length) ∧
  ∀ i x H2, xs[i]? = some x → BestMax kf i xs.length → L2.Same H1 H2 → Q x H2
theorem pe_maxLen {X : Cx} {e : Expr} {te : TE} {p q kp pos : Pos} (hg : Gl X "max") (hm : X.mg "max" = none) (hg2 : Gl X "len") (hm2 : X.mg "len" = none) (he : PE X e te) (hcalm : X.calm = true)
    (hst : backTo pos (starEach [e] X.env) = (false, eval e X.env) :: backTo pos (starEach [] X.env) := by rfl) (hpl : (backTo pos (starEach [e] X.env)).any (·.1) = false := by rfl) :
    PE X (.Call (.Name "max" p) [e] [⟨some (Str.ofString "key"), .Name "len" q, kp⟩] pos) (tMaxLen X.K te) := by
  refine ⟨fun pins s σ H Q I h => ?_⟩
  refine wpAny_Call_Name_kw (ld_blt I hg hm rfl ?_)
  refine PyProof.Rows.callWith_kw ?_ hst hpl rfl rfl
  rw [hst]
  refine Calls.spliced_cons (thn (he.run pins s σ H _ I h) fun u s1 ⟨v, H1, I1, r1, l, xs, kf, ev, hl, ne, hk, hh⟩ => Calls.spliced_nil ?_)
  subst ev
  obtain rfl : u = Value.ref l := r1
  refine PyProof.Rows.kws_cons (ld_blt I1 hg2 hm2 rfl ?_)
  refine PyProof.Rows.kws_nil ?_
  have ll : l < s1.heap.objs.size := by
    obtain ⟨its, rv, pl, hz⟩ := I1.list hl
    obtain ⟨o, ho, _⟩ := pl.isList
    exact Heap.lt_size ho
  refine max_some (dk := []) I1 hcalm (turn_len I1 hk) hl ll ne (args_m1 _ _) rfl rfl fun i x v H4 s' hx rx bm sm os bare un hok => ?_
  exact I1.after ⟨x, H4, os, bare, un, hok, rx, hh i x H4 hx bm sm⟩
end MnK
set_option Elab.async false
set_option linter.all false
set_option maxRecDepth 100000
set_option maxHeartbeats 2000000
set_option pp.maxSteps 900
namespace KT
open PySem L2 PyProof.Rows DTp TxS
/-- a list of so many items -/
def LnAt (H : Hp) (a : Addr) (n : Nat) : Prop := ∃ ys : List V, H a = some (.lst ys) ∧ ys.length = n
theorem LnAt.mono {H H' : Hp} {a : Addr} {n : Nat} (s : L2.Same H H') (h : LnAt H a n) : LnAt H' a n := let ⟨ys, e, l⟩ := h; ⟨ys, s _ _ e, l⟩
/-- the lists that end at each point, while the end j is looked at, n starts seen -/
def cur (f : Str → Str → Str) (ks : List Str) (x : Str) (j n i : Nat) : Nat := if i < j then be f ks x i else if i = j then pb f ks x j n else 0
theorem cur_next {f : Str → Str → Str} {ks : List Str} {x : Str} {j i : Nat} : cur f ks x j j i = cur f ks x (j + 1) 0 i := by
  unfold cur
  by_cases c : i < j
  · rw [if_pos c, if_pos (by omega)]
  · by_cases d : i = j
    · subst d; rw [if_neg (Nat.lt_irrefl _), if_pos rfl, if_pos (by omega), be_eq]
    · rw [if_neg c, if_neg d, if_neg (by omega)]
      split
      · rfl
      · rfl
theorem cur_lt {f : Str → Str → Str} {ks : List Str} {x : Str} {j n i : Nat} (h : i < j) : cur f ks x j n i = be f ks x i := if_pos h
theorem cur_at {f : Str → Str → Str} {ks : List Str} {x : Str} {j n : Nat} : cur f ks x j n j = pb f ks x j n := by unfold cur; rw [if_neg (Nat.lt_irrefl _), if_pos rfl]
theorem cur_succ {f : Str → Str → Str} {ks : List Str} {x : Str} {j n i : Nat} (h : i ≠ j) : cur f ks x j (n + 1) i = cur f ks x j n i := by unfold cur; rw [if_neg h, if_neg h]
theorem cur_end {f : Str → Str → Str} {ks : List Str} {x : Str} {n i : Nat} (h : i ≤ n) : cur f ks x (n + 1) 0 i = be f ks x i := if_pos (by omega)
theorem cur_one {f : Str → Str → Str} {ks : List Str} {x : Str} {i : Nat} : cur f ks x 1 0 i = 0 := by
  unfold cur
  by_cases c : i < 1
  · obtain rfl : i = 0 := by omega
    rw [if_pos c]
    exact be_zero
  · rw [if_neg c]
    split
    · rfl
    · rfl
def LgA (H0 H : Hp) (D : Addr) (n : Nat) (c : Nat → Nat) : Prop := ∃ as : List Addr, as.length = n + 1 ∧ H D = some (.lst (as.map V.ref)) ∧ ∀ (i : Nat) (a : Addr), as[i]? = some a → a ≠ D ∧ LnAt H a (c i + 1) ∧ H0 a = none
def spLp : Sp := fun vs H Q _ => ∃ (d : Addr) (kvs : List (List Key × V)) (f : Str → Str → Str) (ks : List Str) (x : Str), vs = [.ref d, .int (ks.length : Nat), .str x] ∧ H d = some (.dT kvs) ∧ StrTb f ks kvs ∧ ks.length ≤ 100 ∧
  ∀ (q : Addr) (H' : Hp), L2.Same H H' → H q = none → LnAt H' q (mxB f ks x ks.length + 1) → Q (.ref q) H'
section
variable {P : Program} {w : World} {K : PySem.W.Frag} {mg : Str → Option Value} {base : Heap} {C S G : Addr}
abbrev nLp : List Str := ["stretches", "many", "kind", "longest", "last", "first", "point"]
theorem scLp : FnScope nLp ["stretches", "many", "kind"] (defScope sLp) := ⟨rfl, rfl, rfl, by decide +kernel, rfl, by decide +kernel, by decide +kernel⟩
theorem ok_lp {g : Addr} {fd : FuncData} (F : Fun K "_longest_points" "_longest_points" sLp g fd) (B0 : Blt mg) : FnOk P w K mg base CX0 1 g fd ["stretches", "many", "kind"] spLp := by
  refine F.ok scLp (fun vs H Q E h => ?_) (fun cdv A outer s H vs Q E hr h => ?_)
  · obtain ⟨d, kvs, f, ks, x, rfl, _⟩ := h
    rfl
  · obtain ⟨d, kvs, f, ks, x, rfl, hd, tb, few, k⟩ := h
    have nd := scLp.nd
    refine ⟨_, pss_cons (ps_setLc (i := 3) (own := [("point", 6)]) (g := gName 6) (tt := tYes) (te := tLst (tCons (tVar 6) tNil)) rfl nd rfl rfl (sw_true rfl rfl rfl (by decide +kernel)) (pi_range1 rfl B0.range (pa_cons (pe_op op_add (pv 1) (pe_int)) (pa_nil))) (blkOk_by (own := [("point", 6)]) (N := nLp) (sc := defScope sLp) (by decide +kernel)) (fun _ _ _ _ _ => pg_name (i := 6) nd rfl (Or.inl rfl)) (fun _ _ _ _ _ => pts_nil) (fun _ _ _ _ _ => pe_lst (pa_cons (pv 6) (pa_nil))))
      (pss_cons (ps_for PassesOwn.never rfl (pi_range2 rfl B0.range (pa_cons (pe_int) (pa_cons (pe_op op_add (pv 1) (pe_int)) (pa_nil)))) (pg_name (i := 4) nd rfl (Or.inl rfl)) (pss_one (ps_for PassesOwn.never rfl (pi_range1 rfl B0.range (pa_cons (pv 4) (pa_nil))) (pg_name (i := 5) nd rfl (Or.inl rfl)) (pss_one (ps_if (pt_cut <| PW.pt (pw_and (pt_cmpR op_eq (pe_dget (hu_of hr) (pv 0) (pe_tup (pa_cons (pv 5) (pa_cons (pv 4) (pa_nil)))) (fun _ _ => rfl)) (pv 2) (nomark _)) (pw_and1 (pt_cmpR op_ge (pe_callB call_len_seq (by rfl) B0.len PySem.boot_len (pa_cons (pe_ix ix_list (pv 3) (pv 5) (fun _ _ => rfl)) (pa_nil))) (pe_callB call_len_seq (by rfl) B0.len PySem.boot_len (pa_cons (pe_ix ix_list (pv 3) (pv 4) (fun _ _ => rfl)) (pa_nil))) (nomark _))))) (pss_one (ps_asg (pe_op op_cat (pe_ix ix_list (pv 3) (pv 5) (fun _ _ => rfl)) (pe_lst (pa_cons (pv 4) (pa_nil)))) (pg_sub (pv 3) (pv 4) set_list))) pss_nil)))))
      (pss_one (ps_ret (MnK.pe_maxLen rfl B0.max rfl B0.len (pv 3) rfl)))), ?_⟩
    refine ⟨_, rfl, _, _, rfl, rfl, _, rfl, by omega, by omega, fun D hD => ?_⟩
    have en : (((ks.length : Nat) : Int) + 1).toNat = ks.length + 1 := by omega
    rw [en]
    refine lc_range (lo := 0) (n := ks.length + 1) (fun i H' => L2.Same H H' ∧ ∃ as : List Addr, as.length = i ∧ H' D = some (.lst (as.map V.ref)) ∧ ∀ a ∈ as, a ≠ D ∧ LnAt H' a 1 ∧ H a = none) ?_ ?_ ?_
    · exact ⟨Same.new hD, [], rfl, upd_same, fun a h => by cases h⟩
    · rintro i H3 hi ⟨s3, as, la, hD3, fa⟩
      refine ⟨rfl, yes_if ?_⟩
      refine ⟨_, rfl, (by show 1 ≤ sizeLine; decide), fun p hp => ?_⟩
      have np : D ≠ p := ne_of_none hD3 hp
      refine ⟨_, (upd_ne np).trans hD3, by rw [List.length_map, la, sizeLine_eq]; omega, ?_⟩
      refine ⟨?_, as ++ [p], by rw [List.length_append, la]; rfl, by rw [upd_same, List.map_append]; rfl, fun a ha => ?_⟩
      · exact Same.mut (s3.trans (Same.new hp)) hD
      · have hp0 : H p = none := none_back s3 hp
        rcases List.mem_append.mp ha with ha | ha
        · obtain ⟨n1, ⟨ys, e, l⟩, n2⟩ := fa a ha
          exact ⟨n1, ⟨ys, (upd_ne n1).trans ((upd_ne (ne_of_none e hp)).trans e), l⟩, n2⟩
        · rw [List.mem_singleton.mp ha]
          exact ⟨np.symm, ⟨_, (upd_ne np.symm).trans upd_same, rfl⟩, hp0⟩
    · rintro H3 ⟨s3, as, la, hD3, fa⟩
      refine at_name (σ' := [some (.ref d), some (.int (ks.length : Nat)), some (.str x), some (.ref D), none, none, none]) rfl ?_
      have hd3 := s3 _ _ hd
      refine ⟨_, rfl, _, _, rfl, rfl, _, _, rfl, ⟨by omega, by omega, by omega, by omega⟩, ?_⟩
      have en2 : (((ks.length : Nat) : Int) + 1 - 1).toNat = ks.length := by omega
      rw [en2]
      have lg3 : LgA H H3 D ks.length (cur f ks x 1 0) := ⟨as, la, hD3, fun i a e => ⟨(fa a (List.mem_of_getElem? e)).1, by rw [cur_one]; exact (fa a (List.mem_of_getElem? e)).2.1, (fa a (List.mem_of_getElem? e)).2.2⟩⟩
      refine for_range (lo := 1) (n := ks.length) (fun j σ H' => ∃ (x4 x5 : Option V), σ = [some (.ref d), some (.int (ks.length : Nat)), some (.str x), some (.ref D), x4, x5, none] ∧ L2.Same H H' ∧ LgA H H' D ks.length (cur f ks x (j + 1) 0)) ?_ ?_ ?_
      · exact ⟨_, _, rfl, s3, lg3⟩
      · rintro j σ H4 hj ⟨x4, x5, rfl, s4, lg4⟩
        rw [show (1 : Int) + (j : Nat) = ((j + 1 : Nat) : Int) by omega]
        refine at_name (σ' := [some (.ref d), some (.int (ks.length : Nat)), some (.str x), some (.ref D), some (.int (j + 1 : Nat)), x5, none]) rfl ?_
        refine ⟨_, rfl, _, rfl, by omega, by omega, ?_⟩
        rw [show (((j + 1 : Nat) : Int)).toNat = j + 1 by omega]
        refine for_range (lo := 0) (n := j + 1) (fun i σ H' => ∃ (x5 : Option V), σ = [some (.ref d), some (.int (ks.length : Nat)), some (.str x), some (.ref D), some (.int (j + 1 : Nat)), x5, none] ∧ L2.Same H H' ∧ LgA H H' D ks.length (cur f ks x (j + 1) i)) ?_ ?_ ?_
        · exact ⟨_, rfl, s4, lg4⟩
        · rintro i σ H5 hi ⟨x5, rfl, s5, as5, la5, hD5, fa5⟩
          rw [show (0 : Int) + (i : Nat) = (i : Nat) by omega]
          refine at_name (σ' := [some (.ref d), some (.int (ks.length : Nat)), some (.str x), some (.ref D), some (.int (j + 1 : Nat)), some (.int (i : Nat)), none]) rfl ?_
          obtain ⟨a, ea⟩ : ∃ a, as5[i]? = some a := ⟨_, List.getElem?_eq_getElem (by omega)⟩
          obtain ⟨b, eb⟩ : ∃ b, as5[j + 1]? = some b := ⟨_, List.getElem?_eq_getElem (by omega)⟩
          obtain ⟨na, ⟨ya, ha, la⟩, za⟩ := fa5 i a ea
          obtain ⟨nb, ⟨yb, hb, lb⟩, zb⟩ := fa5 (j + 1) b eb
          have va : (as5.map V.ref)[i]? = some (.ref a) := by rw [List.getElem?_map, ea]; rfl
          have vb : (as5.map V.ref)[j + 1]? = some (.ref b) := by rw [List.getElem?_map, eb]; rfl
          rw [cur_lt hi] at la
          rw [cur_at] at lb
          refine ⟨fun c H' => L2.Same H5 H' ∧ (c = true ↔ btw f ks (i, j + 1) = x ∧ pb f ks x (j + 1) i ≤ be f ks x i), ?_, ?_⟩
          · refine ⟨_, rfl, _, rfl, _, rfl, (by show 2 ≤ sizeLine; decide), fun t1 ht10 => ?_⟩
            have s6 := Same.new (H := H5) (o := .tup [.int (i : Nat), .int (j + 1 : Nat)]) ht10
            have ht1 : upd H5 t1 (.tup [.int (i : Nat), .int (j + 1 : Nat)]) t1 = _ := upd_same
            generalize upd H5 t1 (.tup [.int (i : Nat), .int (j + 1 : Nat)]) = H6 at s6 ht1 ⊢
            have dg := DGet.t (k := keyI (i, j + 1)) (s6 _ _ (s5 _ _ hd)) ht1
            rw [tb.get (i := (i, j + 1)) ⟨hi, by show j + 1 ≤ ks.length; omega⟩] at dg
            refine ⟨d, _, rfl, dg, ?_⟩
            have q6 : H6 D = some (.lst (as5.map V.ref)) := s6 _ _ hD5
            refine ⟨_, rfl, rfl, _, rfl, ?_⟩
            refine ite2 (fun h1 => ?_) (fun h1 => ?_)
            · have h1 : btw f ks (i, j + 1) = x := V.str.inj (of_decide_eq_true h1)
              have qi : ((j + 1 : Nat) : Int) = ((j + 1 : Nat) : Int) := rfl
              refine ⟨_, rfl, _, rfl, D, _, _, _, rfl, rfl, SqL.of q6, atI_nat (j := i) va, a, ya, rfl, .inl (SqL.of (s6 _ _ ha)), _, rfl, _, rfl, D, _, _, _, rfl, rfl, SqL.of q6, atI_nat (j := j + 1) vb, b, yb, rfl, .inl (SqL.of (s6 _ _ hb)), _, _, rfl, rfl, _, rfl, s6, ?_⟩
              rw [la, lb]
              exact ⟨fun h => ⟨h1, by have := of_decide_eq_true h; omega⟩, fun h => decide_eq_true (by have := h.2; omega)⟩
            · exact ⟨s6, fun h => (by cases h), fun h => absurd (decide_eq_true (congrArg V.str h.1)) h1⟩
          · rintro c H6 ⟨s6, hc⟩
            refine ite2 (fun h1 => ?_) (fun h1 => ?_)
            · obtain ⟨e1, e2⟩ := hc.mp h1
              have be1 := be_le (f := f) (ks := ks) (x := x) i
              have q6 : H6 D = some (.lst (as5.map V.ref)) := s6 _ _ hD5
              refine ⟨_, rfl, _, rfl, D, _, _, _, rfl, rfl, SqL.of q6, atI_nat (j := i) va, _, rfl, (by show 1 ≤ sizeLine; decide), fun p1 p10 => ?_⟩
              have s7 := Same.new (H := H6) (o := .lst [.int (j + 1 : Nat)]) p10
              have hp1 : upd H6 p1 (.lst [.int (j + 1 : Nat)]) p1 = _ := upd_same
              generalize upd H6 p1 (.lst [.int (j + 1 : Nat)]) = H7 at s7 hp1 ⊢
              refine ⟨a, p1, ya, [.int (j + 1 : Nat)], rfl, rfl, s7 _ _ (s6 _ _ ha), hp1, by rw [la, sizeLine_eq]; show _ + 1 ≤ _; omega, fun p2 p20 => ?_⟩
              have s8 := Same.new (H := H7) (o := .lst (ya ++ [.int (j + 1 : Nat)])) p20
              have hp2 : upd H7 p2 (.lst (ya ++ [.int (j + 1 : Nat)])) p2 = _ := upd_same
              generalize upd H7 p2 (.lst (ya ++ [.int (j + 1 : Nat)])) = H8 at s8 hp2 ⊢
              have s78 := s7.trans s8
              have hD8 := s78 _ _ q6
              have h20 : H p2 = none := none_back (s5.trans (s6.trans s7)) p20
              have n2 : D ≠ p2 := ne_of_none (s7 _ _ q6) p20
              refine ⟨_, rfl, _, rfl, D, _, _, j + 1, rfl, rfl, hD8, Evl.ixN_nat (by rw [List.length_map]; omega), ?_⟩
              refine ⟨_, rfl, Same.mut ((s5.trans s6).trans s78) hD, as5.set (j + 1) p2, by rw [List.length_set, la5], by rw [upd_same, List.map_set], fun i' a' e' => ?_⟩
              rw [List.getElem?_set] at e'
              by_cases ci : j + 1 = i'
              · rw [if_pos ci, if_pos (by omega)] at e'
                cases e'
                subst ci
                refine ⟨n2.symm, ⟨_, (upd_ne n2.symm).trans hp2, ?_⟩, h20⟩
                rw [cur_at, pb_succ, if_pos e1, List.length_append, la]
                show be f ks x i + 1 + 1 = _
                omega
              · rw [if_neg ci] at e'
                obtain ⟨n', ⟨y', h', l'⟩, z'⟩ := fa5 i' a' e'
                exact ⟨n', ⟨y', (upd_ne n').trans (s78 _ _ (s6 _ _ h')), by rw [l', cur_succ (Ne.symm ci)]⟩, z'⟩
            · refine ⟨_, rfl, s5.trans s6, as5, la5, s6 _ _ hD5, fun i' a' e' => ?_⟩
              obtain ⟨n', l', z'⟩ := fa5 i' a' e'
              refine ⟨n', ?_, z'⟩
              by_cases ci : i' = j + 1
              · subst ci
                rw [cur_at] at l' ⊢
                have : pb f ks x (j + 1) (i + 1) = pb f ks x (j + 1) i := by
                  rw [pb_succ]
                  by_cases c1 : btw f ks (i, j + 1) = x
                  · rw [if_pos c1]
                    have : ¬ pb f ks x (j + 1) i ≤ be f ks x i := fun q => h1 (hc.mpr ⟨c1, q⟩)
                    omega
                  · rw [if_neg c1]
                rw [this]
                exact l'.mono s6
              · rw [cur_succ ci]
                exact l'.mono s6
        · rintro σ H5 ⟨x5, rfl, s5, lg5⟩
          refine ⟨_, _, rfl, s5, ?_⟩
          obtain ⟨as, l, e, fa⟩ := lg5
          exact ⟨as, l, e, fun i a q => ⟨(fa i a q).1, by rw [← cur_next]; exact (fa i a q).2.1, (fa i a q).2.2⟩⟩
      · rintro σ H4 ⟨x4, x5, rfl, s4, as4, la4, hD4, fa4⟩
        refine ⟨_, rfl, D, as4.map V.ref, fun i => ((cur f ks x (ks.length + 1) 0 i + 1 : Nat) : Int), rfl, SqL.of hD4, ?_, fun i v e => ?_, fun i v H5 e bm s5 => ?_⟩
        · intro z
          have := congrArg List.length z
          rw [List.length_map, la4] at this
          cases this
        · rw [List.getElem?_map] at e
          cases ea : as4[i]? with
          | none => rw [ea] at e; cases e
          | some a =>
            rw [ea] at e
            obtain ⟨na, ⟨ys, ha, l⟩, z⟩ := fa4 i a ea
            exact ⟨a, ys, (Option.some.inj e).symm, SqL.of ha, by rw [l]⟩
        · rw [List.getElem?_map] at e
          cases ea : as4[i]? with
          | none => rw [ea] at e; cases e
          | some a =>
            rw [ea] at e
            obtain ⟨na, ln, z⟩ := fa4 i a ea
            rw [← Option.some.inj e]
            have hi : i < as4.length := (List.getElem?_eq_some_iff.mp ea).1
            rw [List.length_map, la4] at bm
            refine k a H5 (s4.trans s5) z ?_
            rw [cur_end (by omega)] at ln
            rw [← mxB_uniq (v := be f ks x i) ⟨i, by omega, rfl⟩ fun j hj => ?_]
            · exact ln.mono s5
            · have q : ((cur f ks x (ks.length + 1) 0 j + 1 : Nat) : Int) ≤ ((cur f ks x (ks.length + 1) 0 i + 1 : Nat) : Int) := (bm j (by omega)).1
              rw [cur_end (by omega), cur_end (by omega)] at q
              omega
end
end KT
set_option Elab.async false
set_option linter.all false
set_option maxRecDepth 100000
set_option maxHeartbeats 2000000
set_option pp.maxSteps 900
namespace KT
open PySem L2 PyProof.Rows DTp TxS
/-- all rows of so many kinds, in their order -/
def alr (ws : List Str) : Nat → List (List Str)
  | 0 => [[]]
  | n + 1 => (alr ws n).flatMap fun r => ws.map fun k => r ++ [k]
theorem flat_cnt {α β : Type} (g : α → List β) (c : Nat) : ∀ l : List α, (∀ x ∈ l, (g x).length = c) → (l.flatMap g).length = l.length * c
  | [], _ => by simp
  | a :: l, h => by
    rw [List.flatMap_cons, List.length_append, h a List.mem_cons_self, flat_cnt g c l fun x hx => h x (List.mem_cons_of_mem _ hx), List.length_cons, Nat.succ_mul, Nat.add_comm]
theorem alr_len (ws : List Str) : ∀ n, (alr ws n).length = ws.length ^ n
  | 0 => rfl
  | n + 1 => by
    show ((alr ws n).flatMap fun r => ws.map fun k => r ++ [k]).length = _
    rw [flat_cnt _ ws.length _ fun x _ => List.length_map _, alr_len ws n, Nat.pow_succ]
theorem alr_mem {ws : List Str} : ∀ {n : Nat} {r : List Str}, r ∈ alr ws n ↔ r.length = n ∧ ∀ k ∈ r, k ∈ ws
  | 0, r => by
    show r ∈ [[]] ↔ _
    rw [List.mem_singleton, List.length_eq_zero_iff]
    exact ⟨fun h => ⟨h, fun k hk => by rw [h] at hk; cases hk⟩, fun h => h.1⟩
  | n + 1, r => by
    show r ∈ (alr ws n).flatMap (fun r => ws.map fun k => r ++ [k]) ↔ _
    rw [List.mem_flatMap]
    constructor
    · rintro ⟨q, hq, hr⟩
      obtain ⟨k, hk, rfl⟩ := List.mem_map.mp hr
      obtain ⟨h1, h2⟩ := alr_mem.mp hq
      refine ⟨by rw [List.length_append, h1]; rfl, fun z hz => ?_⟩
      rcases List.mem_append.mp hz with hz | hz
      · exact h2 z hz
      · rw [List.mem_singleton.mp hz]; exact hk
    · rintro ⟨h1, h2⟩
      have ne : r ≠ [] := fun e => by rw [e] at h1; cases h1
      refine ⟨r.dropLast, alr_mem.mpr ⟨by rw [List.length_dropLast, h1]; rfl, fun k hk => h2 k (List.dropLast_subset _ hk)⟩, List.mem_map.mpr ⟨r.getLast ne, h2 _ (List.getLast_mem ne), List.dropLast_concat_getLast ne⟩⟩
/-- a list of rows, each a list of its own -/
structure RwsAt (H0 H : Hp) (q : Addr) (zs : List (Addr × List Str)) : Prop where
  at' : H q = some (.lst (zs.map fun z => V.ref z.1))
  row : ∀ z ∈ zs, H z.1 = some (.lst (z.2.map V.str))
  new : ∀ z ∈ zs, H0 z.1 = none
theorem RwsAt.mono {H0 H H' : Hp} {q : Addr} {zs : List (Addr × List Str)} (s : L2.Same H H') (h : RwsAt H0 H q zs) : RwsAt H0 H' q zs := ⟨s _ _ h.at', fun z hz => s _ _ (h.row z hz), h.new⟩
def lgr (ws : List Str) (rs : List (List Str)) : List (List Str) := rs.flatMap fun r => ws.map fun k => r ++ [k]
/-- the rows so far, while D is filled -/
structure RwsD (H0 H : Hp) (D : Addr) (zs : List (Addr × List Str)) : Prop where
  at' : H D = some (.lst (zs.map fun z => V.ref z.1))
  row : ∀ z ∈ zs, z.1 ≠ D ∧ H z.1 = some (.lst (z.2.map V.str)) ∧ H0 z.1 = none
theorem RwsD.mono {H0 H H' : Hp} {q : Addr} {zs : List (Addr × List Str)} (s : L2.Same H H') (h : RwsD H0 H q zs) : RwsD H0 H' q zs := ⟨s _ _ h.at', fun z hz => ⟨(h.row z hz).1, s _ _ (h.row z hz).2.1, (h.row z hz).2.2⟩⟩
theorem RwsD.snoc {H0 H : Hp} {D : Addr} {zs : List (Addr × List Str)} {r : Addr} {row : List Str} (h : RwsD H0 H D zs) (hr : H r = some (.lst (row.map V.str))) (n : r ≠ D) (r0 : H0 r = none) : RwsD H0 (upd H D (.lst ((zs.map fun z => V.ref z.1) ++ [.ref r]))) D (zs ++ [(r, row)]) :=
  ⟨by rw [upd_same, List.map_append]; rfl, fun z hz => by
    rcases List.mem_append.mp hz with hz | hz
    · obtain ⟨a, b, c⟩ := h.row z hz
      exact ⟨a, (upd_ne a).trans b, c⟩
    · rw [List.mem_singleton.mp hz]
      exact ⟨n, (upd_ne n).trans hr, r0⟩⟩
theorem RwsD.out {H0 H : Hp} {D : Addr} {zs : List (Addr × List Str)} (h : RwsD H0 H D zs) : RwsAt H0 H D zs := ⟨h.at', fun z hz => (h.row z hz).2.1, fun z hz => (h.row z hz).2.2⟩
def spAlr (C : Addr) : Sp := fun vs H Q _ => ∃ (p : Addr) (ws : List Str) (f : Str → Str → Str) (n : Nat), vs = [.ref p, .int n] ∧ KdAt C H p ws f ∧ n ≤ 12 ∧ ws.length ^ n ≤ 4096 ∧
  ∀ (q : Addr) (zs : List (Addr × List Str)) (H' : Hp), L2.Same H H' → H q = none → RwsAt H H' q zs → zs.map (·.2) = alr ws n → Q (.ref q) H'
section
variable {P : Program} {w : World} {K : PySem.W.Frag} {mg : Str → Option Value} {base : Heap} {C S G : Addr}
abbrev nAlr : List Str := ["kinds", "number", "rows", "_", "row", "kind"]
theorem scAlr : FnScope nAlr ["kinds", "number"] (defScope sAlr) := ⟨rfl, rfl, rfl, by decide +kernel, rfl, by decide +kernel, by decide +kernel⟩
theorem ok_alr {g : Addr} {fd : FuncData} (F : Fun K "all_rows" "all_rows" sAlr g fd) (T : KTx K mg C) (B0 : Blt mg) (M : Mee P w K mg base C 1 "words" ["self"] (spKWords C)) : FnOk P w K mg base CX0 2 g fd ["kinds", "number"] (spAlr C) := by
  refine F.ok scAlr (fun vs H Q E h => ?_) (fun cdv A outer s H vs Q E hr h => ?_)
  · obtain ⟨p, ws, f, n, rfl, _⟩ := h
    rfl
  · obtain ⟨p, ws, f, n, rfl, kd, n12, few, k⟩ := h
    have nd := scAlr.nd
    refine ⟨_, pss_cons (ps_set (i := 2) nd rfl (Or.inl rfl) (pe_lst (pa_cons (pe_lst (pa_nil)) (pa_nil))))
      (pss_cons (ps_for PassesOwn.never rfl (pi_range1 rfl B0.range (pa_cons (pv 1) (pa_nil))) (pg_name (i := 3) nd rfl (Or.inl rfl)) (pss_one (ps_setLc2 (i := 2) (own := [("row", 4), ("kind", 5)]) (vs1 := [5]) (g := gName 4) (tt := tYes) (wi1 := iList K (tMeth C (Str.ofString "words") (spKWords C) [] E0 (tVar 0) tNil)) (g1 := gName 5) (tt1 := tYes) (te := tOp rCat (tVar 4) (tLst (tCons (tVar 5) tNil))) rfl nd rfl rfl (sw_true rfl rfl rfl (by decide +kernel)) (pi_list (pv 2)) (blkOk_by (own := [("row", 4), ("kind", 5)]) (N := nAlr) (sc := defScope sAlr) (by decide +kernel)) (by decide) (fun _ _ _ _ _ => pg_name (i := 4) nd rfl (Or.inl rfl)) (fun _ _ _ _ _ => pts_nil) (fun _ _ _ _ _ => pi_list (pe_m0 M T.cl hr (pv 0))) (fun _ _ _ _ _ => pg_name (i := 5) nd rfl (Or.inl rfl)) (fun _ _ _ _ _ => pts_nil) (fun _ _ _ _ _ => pe_op op_cat (pv 4) (pe_lst (pa_cons (pv 5) (pa_nil)))))))
      (pss_one (ps_ret (pv 2)))), ?_⟩
    have kw : KW ws f := let ⟨_, _, _, q⟩ := kd; q.kw
    have w4 := kw.few
    have pow : ∀ i, i ≤ n → ws.length ^ i ≤ 4096 := fun i hi => Nat.le_trans (Nat.pow_le_pow_right kw.pos hi) few
    refine ⟨(by show 0 ≤ sizeLine; decide), fun p0 p00 => ⟨(by show 1 ≤ sizeLine; decide), fun r0 r00 => ?_⟩⟩
    have s1 := Same.new (H := H) (o := .lst []) p00
    have hp0 : upd H p0 (.lst []) p0 = _ := upd_same
    generalize upd H p0 (.lst []) = H1 at s1 hp0 r00 ⊢
    have s2 := Same.new (H := H1) (o := .lst [.ref p0]) r00
    have hr0 : upd H1 r0 (.lst [.ref p0]) r0 = _ := upd_same
    generalize upd H1 r0 (.lst [.ref p0]) = H2 at s2 hr0 ⊢
    refine at_name (σ' := [some (.ref p), some (.int n), some (.ref r0), none, none, none]) rfl ?_
    refine ⟨_, rfl, _, rfl, by omega, by omega, ?_⟩
    rw [show ((n : Nat) : Int).toNat = n by omega]
    refine for_range (lo := 0) (n := n) (fun i σ H' => ∃ (r : Addr) (x3 : Option V) (zs : List (Addr × List Str)), σ = [some (.ref p), some (.int n), some (.ref r), x3, none, none] ∧ L2.Same H H' ∧ H r = none ∧ RwsAt H H' r zs ∧ zs.map (·.2) = alr ws i) ?_ ?_ ?_
    · exact ⟨r0, _, [(p0, [])], rfl, s1.trans s2, none_back s1 r00, ⟨hr0, fun z hz => by rw [List.mem_singleton.mp hz]; exact s2 _ _ hp0, fun z hz => by rw [List.mem_singleton.mp hz]; exact p00⟩, rfl⟩
    · rintro i σ H3 hi ⟨r, x3, zs, rfl, s3, r0', rw3, ez⟩
      have pwi := pow i (by omega)
      have lz : zs.length ≤ 4096 := by
        have := congrArg List.length ez
        rw [List.length_map, alr_len] at this
        omega
      refine at_name (σ' := [some (.ref p), some (.int n), some (.ref r), some (.int (0 + (i : Nat))), none, none]) rfl ?_
      refine ⟨_, rfl, r, rfl, ⟨_, SqL.of rw3.at'⟩, fun D hD => ?_⟩
      have hD0 := none_back s3 hD
      refine ⟨fun m j H' => j = zs.length - m ∧ m ≤ zs.length ∧ L2.Same H3 H' ∧ ∃ ys, RwsD H H' D ys ∧ ys.map (·.2) = lgr ws ((zs.take m).map (·.2)), ⟨_, rfl, Nat.zero_le _, Same.new hD, [], ⟨upd_same, fun z h => by cases h⟩, rfl⟩, ?_⟩
      rintro m j H4 ⟨rfl, hm, s4, ys, rd4, ey⟩
      have wk := walk_LI (K := K) (a := r) zs fun z => V.ref z.1
      by_cases hlt : m < zs.length
      · refine .inr ⟨wk.goes m H4 hlt (SqL.of (s4 _ _ rw3.at')), fun H' => L2.Same H3 H' ∧ ∃ ys, RwsD H H' D ys ∧ ys.map (·.2) = lgr ws ((zs.take (m + 1)).map (·.2)), fun H' h => ⟨_, by omega, rfl, by omega, h.1, h.2⟩, fun v H5 y => ?_⟩
        obtain ⟨rfl, z, ez', rfl⟩ := wk.yields m H4 v H5 hlt (SqL.of (s4 _ _ rw3.at')) y
        obtain ⟨za, zr⟩ := z
        refine at_name (σ' := [some (.ref p), some (.int n), some (.ref r), some (.int (0 + (i : Nat))), some (.ref za), none]) rfl ⟨rfl, yes_if ?_⟩
        have kd5 := kd.mono (s3.trans s4)
        obtain ⟨dx, dd, l, kin⟩ := id kd5
        refine ⟨_, rfl, p, dx, _, rfl, kin.ob, flds_no _ _ (by decide +kernel) (by decide +kernel), p, ws, f, rfl, kd5, fun l2 H6 s6 hl20 hl2 => ?_⟩
        have hz := s4 _ _ (rw3.row (za, zr) (List.mem_of_getElem? ez'))
        have rd6 := rd4.mono s6
        have s46 := L2.Same.trans s4 s6
        have nl : l2 ≠ D := fun e => by
          rw [e, rd4.at'] at hl20; cases hl20
        have lys : ys.length ≤ 16384 := by
          have := congrArg List.length ey
          unfold lgr at this
          rw [List.length_map, flat_cnt _ ws.length _ fun x _ => List.length_map _, List.length_map, List.length_take] at this
          have : min m zs.length * ws.length ≤ 4096 * 4 := Nat.mul_le_mul (by omega) (by omega)
          omega
        refine ⟨l2, rfl, ⟨_, SqL.of hl2⟩, fun j k' H' => k' = ws.length - j ∧ j ≤ ws.length ∧ L2.Same H3 H' ∧ H' l2 = some (.lst (ws.map V.str)) ∧ ∃ ys2, RwsD H H' D ys2 ∧ ys2.length = ys.length + j ∧ ys2.map (·.2) = lgr ws ((zs.take m).map (·.2)) ++ (ws.take j).map fun k => zr ++ [k], ⟨_, rfl, Nat.zero_le _, s46, hl2, ys, rd6, rfl, by rw [List.take_zero, List.map_nil, List.append_nil]; exact ey⟩, ?_⟩
        rintro j k' H7 ⟨rfl, hj, s7, hl27, ys7, rd7, ly7, ey7⟩
        have w2 := walk_LI (K := K) (a := l2) ws V.str
        by_cases jlt : j < ws.length
        · refine .inr ⟨w2.goes j H7 jlt (SqL.of hl27), fun H' => L2.Same H3 H' ∧ H' l2 = some (.lst (ws.map V.str)) ∧ ∃ ys2, RwsD H H' D ys2 ∧ ys2.length = ys.length + (j + 1) ∧ ys2.map (·.2) = lgr ws ((zs.take m).map (·.2)) ++ (ws.take (j + 1)).map fun k => zr ++ [k], fun H' h => ⟨_, by omega, rfl, by omega, h.1, h.2⟩, fun v H8 y => ?_⟩
          obtain ⟨e8, x, ex, rfl⟩ := w2.yields j H7 v H8 jlt (SqL.of hl27) y
          rw [e8]
          clear e8 y H8
          refine at_name (σ' := [some (.ref p), some (.int n), some (.ref r), some (.int (0 + (i : Nat))), some (.ref za), some (.str x)]) rfl ⟨rfl, yes_if ?_⟩
          have hz7 := s7 _ _ (rw3.row (za, zr) (List.mem_of_getElem? ez'))
          have lzr : zr.length = i := by
            have : zr ∈ alr ws i := by rw [← ez]; exact List.mem_map.mpr ⟨_, List.mem_of_getElem? ez', rfl⟩
            exact (alr_mem.mp this).1
          refine ⟨_, rfl, _, rfl, (by show 1 ≤ sizeLine; decide), fun p1 p10 => ?_⟩
          have t1 := Same.new (H := H7) (o := .lst [.str x]) p10
          have hp1 : upd H7 p1 (.lst [.str x]) p1 = _ := upd_same
          generalize upd H7 p1 (.lst [.str x]) = G1 at t1 hp1 ⊢
          refine ⟨za, p1, zr.map V.str, [.str x], rfl, rfl, t1 _ _ hz7, hp1, by rw [List.length_map, lzr, sizeLine_eq]; show _ + 1 ≤ _; omega, fun p2 p20 => ?_⟩
          have t2 := Same.new (H := G1) (o := .lst (zr.map V.str ++ [.str x])) p20
          have hp2 : upd G1 p2 (.lst (zr.map V.str ++ [.str x])) p2 = _ := upd_same
          generalize upd G1 p2 (.lst (zr.map V.str ++ [.str x])) = G2 at t2 hp2 ⊢
          have t12 := t1.trans t2
          have rd8 := rd7.mono t12
          have n2 : p2 ≠ D := (ne_of_none (t1 _ _ rd7.at') p20).symm
          have p2H : H p2 = none := none_back (s3.trans (s7.trans t1)) p20
          have e2 : zr.map V.str ++ [V.str x] = (zr ++ [x]).map V.str := by rw [List.map_append]; rfl
          rw [e2] at hp2
          refine ⟨_, rd8.at', by rw [List.length_map, ly7, sizeLine_eq]; omega, ?_, (upd_ne nl).trans (t12 _ _ hl27), ys7 ++ [(p2, zr ++ [x])], rd8.snoc hp2 n2 p2H, by rw [List.length_append, ly7]; rfl, ?_⟩
          · intro c o e
            rw [upd_ne (ne_of_none e hD)]
            exact t12 _ _ (s7 _ _ e)
          · rw [List.map_append, ey7, take_next' ex, List.map_append, List.append_assoc]; rfl
        · have ej : j = ws.length := by omega
          subst ej
          refine .inl ⟨w2.stops H7 (SqL.of hl27), s7, ys7, rd7, ?_⟩
          rw [ey7, take_next' ez', List.map_append, List.take_length]
          unfold lgr
          rw [List.flatMap_append]
          show _ = _ ++ ([zr].flatMap _)
          rw [List.flatMap_cons, List.flatMap_nil, List.append_nil]
      · have ei : m = zs.length := by omega
        subst ei
        refine .inl ⟨wk.stops H4 (SqL.of (s4 _ _ rw3.at')), ?_⟩
        refine at_name (σ' := [some (.ref p), some (.int n), some (.ref D), some (.int (0 + (i : Nat))), none, none]) rfl ?_
        rw [List.take_length, ez] at ey
        exact ⟨D, _, ys, rfl, s3.trans s4, hD0, rd4.out, ey⟩
    · rintro σ H3 ⟨r, x3, zs, rfl, s3, r0', rw3, ez⟩
      exact ⟨_, rfl, k r zs H3 s3 r0' rw3 ez⟩
end
end KT
set_option Elab.async false
set_option linter.all false
set_option maxRecDepth 100000
set_option maxHeartbeats 2000000
set_option pp.maxSteps 900
namespace KT
open PySem L2 PyProof.Rows DTp TxS
/-- the longest lists by kind -/
structure LbD (H0 H : Hp) (D : Addr) (f : Str → Str → Str) (ks : List Str) (L : List (Str × Addr)) : Prop where
  at' : H D = some (.dK (L.map fun q => ((Sum.inr q.1 : Key), V.ref q.2)))
  ln : ∀ q ∈ L, q.2 ≠ D ∧ LnAt H q.2 (mxB f ks q.1 ks.length + 1) ∧ H0 q.2 = none
theorem LbD.mono {H0 H H' : Hp} {D : Addr} {f : Str → Str → Str} {ks : List Str} {L : List (Str × Addr)} (s : L2.Same H H') (h : LbD H0 H D f ks L) : LbD H0 H' D f ks L := ⟨s _ _ h.at', fun q hq => ⟨(h.ln q hq).1, (h.ln q hq).2.1.mono s, (h.ln q hq).2.2⟩⟩
def spLbk (C : Addr) : Sp := fun vs H Q _ => ∃ (p r : Addr) (ws : List Str) (f : Str → Str → Str) (ks : List Str), vs = [.ref p, .ref r] ∧ KdAt C H p ws f ∧ H r = some (.lst (ks.map V.str)) ∧ ks.length ≤ 100 ∧ (∀ z ∈ ks, z ∈ ws) ∧
  ∀ (q : Addr) (L : List (Str × Addr)) (H' : Hp), L2.Same H H' → H q = none → LbD H H' q f ks L → L.map (·.1) = sqs ws f → Q (.ref q) H'
structure LbC (P : Program) (w : World) (K : PySem.W.Frag) (mg : Str → Option Value) (base : Heap) (C : Addr) : Prop where
  str : Cee P w K mg base 2 "stretch_kinds" ["kinds", "row"] (spStretch C)
  osq : Cee P w K mg base 5 "own_squares" ["kinds"] (spOwnSq C)
  lp : Cee P w K mg base 1 "_longest_points" ["stretches", "many", "kind"] spLp
def spMost (C : Addr) : Sp := fun vs H Q _ => ∃ (p r : Addr) (ws : List Str) (f : Str → Str → Str) (ks : List Str), vs = [.ref p, .ref r] ∧ KdAt C H p ws f ∧ H r = some (.lst (ks.map V.str)) ∧ ks.length ≤ 100 ∧ (∀ z ∈ ks, z ∈ ws) ∧
  ∀ (H' : Hp), L2.Same H H' → Q (.int (mo f ks (sqs ws f) : Nat)) H'
section
variable {P : Program} {w : World} {K : PySem.W.Frag} {mg : Str → Option Value} {base : Heap} {C S G : Addr}
abbrev nLbk : List Str := ["kinds", "row", "stretches", "kind"]
theorem scLbk : FnScope nLbk ["kinds", "row"] (defScope sLbk) := ⟨rfl, rfl, rfl, by decide +kernel, rfl, by decide +kernel, by decide +kernel⟩
theorem ok_lbk {g : Addr} {fd : FuncData} (F : Fun K "_longest_by_kind" "_longest_by_kind" sLbk g fd) (B0 : Blt mg) (M : LbC P w K mg base C) : FnOk P w K mg base CX0 6 g fd ["kinds", "row"] (spLbk C) := by
  refine F.ok scLbk (fun vs H Q E h => ?_) (fun cdv A outer s H vs Q E hr h => ?_)
  · obtain ⟨p, r, ws, f, ks, rfl, _⟩ := h
    rfl
  · obtain ⟨p, r, ws, f, ks, rfl, kd, hr0, few, mk, k⟩ := h
    have nd := scLbk.nd
    refine ⟨_, pss_cons (ps_set (i := 2) nd rfl (Or.inr rfl) (pe_c M.str hr rfl (pa_cons (pv 0) (pa_cons (pv 1) (pa_nil)))))
      (pss_one (ps_ret (GC.pe_dcK (own := [("kind", 3)]) (g := gName 3) (tt := tYes) (tk := tVar 3) (tv := tCall spLp [] E0 (tCons (tVar 2) (tCons (tCB (fun xs H Q => ∃ p ys, xs = [.ref p] ∧ (SqL K H p ys ∨ SqT K H p ys) ∧ Q (.int ys.length) H) (tCons (tVar 1) tNil)) (tCons (tVar 3) tNil)))) rfl nd (pi_list (pe_c M.osq hr rfl (pa_cons (pv 0) (pa_nil)))) (blkOk_by (own := [("kind", 3)]) (N := nLbk) (sc := defScope sLbk) (by decide +kernel)) (fun _ _ _ _ _ => pg_name (i := 3) nd rfl (Or.inl rfl)) (fun _ _ _ _ _ => pts_nil) GC.cl0 trivial (fun _ _ _ _ _ => pv 3) (fun _ _ _ _ _ => pe_c M.lp hr rfl (pa_cons (pv 2) (pa_cons (pe_callB call_len_seq (by rfl) B0.len PySem.boot_len (pa_cons (pv 1) (pa_nil))) (pa_cons (pv 3) (pa_nil)))))))), ?_⟩
    have kw : KW ws f := let ⟨_, _, _, q⟩ := kd; q.kw
    have ll : (ks.map V.str).length = ks.length := List.length_map _
    refine ⟨_, rfl, _, rfl, p, r, ws, f, ks, rfl, kd, hr0, few, mk, fun du kvs H1 s1 hdu0 hdu tb => ?_⟩
    refine at_name (σ' := [some (.ref p), some (.ref r), some (.ref du), none]) rfl ?_
    refine ⟨_, rfl, p, ws, f, rfl, kd.mono s1, fun q0 H2 s2 hq00 hq0 => ?_⟩
    have ndq : (sqs ws f).Nodup := kw.asc.nodup.filter _
    have lsq : (sqs ws f).length ≤ 4 := Nat.le_trans (List.length_filter_le _ _) kw.few
    have s02 := s1.trans s2
    refine ⟨q0, rfl, ⟨_, SqL.of hq0⟩, fun D hD => ?_⟩
    have hD0 := none_back s02 hD
    refine GC.lp_it (walk_LI (K := K) (a := q0) (sqs ws f) V.str) (fun n H' => L2.Same H2 H' ∧ ∃ L, LbD H H' D f ks L ∧ L.map (·.1) = (sqs ws f).take n) ?_ ?_ ?_ ?_
    · exact ⟨Same.new hD, [], ⟨upd_same, fun q h => by cases h⟩, rfl⟩
    · rintro i H' _ ⟨s3, _⟩
      exact SqL.of (s3 _ _ hq0)
    · rintro n v H0 H3 hn ⟨s3, L, lb, eL⟩ ⟨rfl, x, ex, rfl⟩
      dsimp only
      refine at_name (σ' := [some (.ref p), some (.ref r), some (.ref du), some (.str x)]) rfl ⟨rfl, yes_if ?_⟩
      refine ⟨_, rfl, _, rfl, _, rfl, r, _, rfl, .inl (SqL.of (s3 _ _ (s02 _ _ hr0))), _, rfl, ?_⟩
      rw [ll]
      refine ⟨du, kvs, f, ks, x, rfl, s3 _ _ (s2 _ _ hdu), tb, few, fun q H4 s4 hq0 ln => ?_⟩
      have lb4 := lb.mono s4
      have nq : D ≠ q := ne_of_none lb.at' hq0
      have q0H : H q = none := none_back (s02.trans s3) hq0
      have lL : L.length = n := by
        have := congrArg List.length eL
        rw [List.length_map, List.length_take] at this
        omega
      have eK : (L.map fun q => ((Sum.inr q.1 : Key), V.ref q.2)).map (·.1) = ((sqs ws f).take n).map Sum.inr := by rw [← eL, List.map_map, List.map_map]; rfl
      have nw : (Sum.inr x : Key) ∉ (L.map fun q => ((Sum.inr q.1 : Key), V.ref q.2)).map (·.1) := by
        rw [eK]
        intro hx
        obtain ⟨y, hy, e⟩ := List.mem_map.mp hx
        obtain rfl : y = x := Sum.inr.inj e
        obtain ⟨i, hi, e⟩ := List.mem_iff_getElem.mp hy
        rw [List.getElem_take] at e
        rw [List.length_take] at hi
        have e2 := (List.getElem?_eq_some_iff.mp ex).2
        exact List.pairwise_iff_getElem.mp ndq i n _ _ (by omega) (e.trans e2.symm)
      refine ⟨_, Sum.inr x, rfl, lb4.at', by rw [List.length_map, lL, sizeLine_eq]; omega, ?_⟩
      rw [putK_new nw]
      refine ⟨fun c o e => ?_, L ++ [(x, q)], ⟨by rw [upd_same, List.map_append]; rfl, fun z hz => ?_⟩, by rw [List.map_append, eL, take_next' ex]; rfl⟩
      · rw [upd_ne (ne_of_none e hD)]
        exact s4 _ _ (s3 _ _ e)
      · have up : ∀ {b : Addr} {m : Nat} {o : HO}, b ≠ D → LnAt H4 b m → LnAt (upd H4 D o) b m := fun nb ⟨ys, e, l⟩ => ⟨ys, (upd_ne nb).trans e, l⟩
        rcases List.mem_append.mp hz with hz | hz
        · obtain ⟨a, b, c⟩ := lb4.ln z hz
          exact ⟨a, up a b, c⟩
        · rw [List.mem_singleton.mp hz]
          exact ⟨nq.symm, up nq.symm ln, q0H⟩
    · rintro H3 ⟨s3, L, lb, eL⟩
      rw [List.take_length] at eL
      exact k D L H3 (s02.trans s3) hD0 lb eL
abbrev nMost : List Str := ["kinds", "row", "longest", "kind"]
theorem scMost : FnScope nMost ["kinds", "row"] (defScope sMost) := ⟨rfl, rfl, rfl, by decide +kernel, rfl, by decide +kernel, by decide +kernel⟩
theorem ok_most {g : Addr} {fd : FuncData} (F : Fun K "_most_in" "_most_in" sMost g fd) (B0 : Blt mg) (M : Cee P w K mg base 6 "_longest_by_kind" ["kinds", "row"] (spLbk C)) : FnOk P w K mg base CX0 7 g fd ["kinds", "row"] (spMost C) := by
  refine F.ok scMost (fun vs H Q E h => ?_) (fun cdv A outer s H vs Q E hr h => ?_)
  · obtain ⟨p, r, ws, f, ks, rfl, _⟩ := h
    rfl
  · obtain ⟨p, r, ws, f, ks, rfl, kd, hr0, few, mk, k⟩ := h
    have nd := scMost.nd
    refine ⟨_, pss_cons (ps_set (i := 2) nd rfl (Or.inr rfl) (pe_c M hr rfl (pa_cons (pv 0) (pa_cons (pv 1) (pa_nil)))))
      (pss_one (ps_ret (pe_callB (cr_max rfl) (by rfl) B0.max (by decide +kernel) (pa_cons (pe_lock (pe_lc (own := [("kind", 3)]) (g := gName 3) (tt := tYes) (te := tOp (rI0 fun i j => .int (i - j)) (tCB (fun xs H Q => ∃ p ys, xs = [.ref p] ∧ (SqL K H p ys ∨ SqT K H p ys) ∧ Q (.int ys.length) H) (tCons (tDGet (tVar 2) (tVar 3)) tNil)) (tC (.int 1))) rfl nd (pi_keys (pv 2)) (blkOk_by (own := [("kind", 3)]) (N := nMost) (sc := defScope sMost) (by decide +kernel)) (fun _ _ _ _ _ => pg_name (i := 3) nd rfl (Or.inl rfl)) (fun _ _ _ _ _ => pts_nil) (fun _ _ _ _ _ => pe_op op_sub (pe_callB call_len_seq (by rfl) B0.len PySem.boot_len (pa_cons (pe_dget (hu_of hr) (pv 2) (pv 3) (fun _ _ => rfl)) (pa_nil))) (pe_int)))) (pa_nil))))), ?_⟩
    have kw : KW ws f := let ⟨_, _, _, q⟩ := kd; q.kw
    refine ⟨_, rfl, _, rfl, p, r, ws, f, ks, rfl, kd, hr0, few, mk, fun du L H1 s1 hdu0 lb eL => ?_⟩
    refine at_name (σ' := [some (.ref p), some (.ref r), some (.ref du), none]) rfl ?_
    have lL : L.length ≤ 4 := by
      have := congrArg List.length eL
      rw [List.length_map] at this
      have := List.length_filter_le (fun x => decide (f x x = x)) ws
      have := kw.few
      unfold sqs at *
      omega
    have kn : ((L.map fun q => ((Sum.inr q.1 : Key), V.ref q.2)).map (·.1)).Nodup := by
      have e : (L.map fun q => ((Sum.inr q.1 : Key), V.ref q.2)).map (·.1) = (sqs ws f).map Sum.inr := by rw [← eL, List.map_map, List.map_map]; rfl
      rw [e]
      exact List.pairwise_map.mpr (List.Pairwise.imp (fun ne e => ne (Sum.inr.inj e)) (kw.asc.nodup.filter _))
    obtain ⟨kvs, ekv⟩ : ∃ kvs, kvs = L.map fun q => ((Sum.inr q.1 : Key), V.ref q.2) := ⟨_, rfl⟩
    have hdu := lb.at'
    rw [← ekv] at hdu kn
    have lkv : kvs.length = L.length := by rw [ekv, List.length_map]
    have hduH : H du = none := hdu0
    refine ⟨du, _, hdu, trivial, fun od => ?_⟩
    have hG : upd H1 du (.frz od (.dK kvs)) du = some (.frz od (.dK kvs)) := upd_same
    have s02 : L2.Same H (upd H1 du (.frz od (.dK kvs))) := Same.mut s1 hdu0
    have lnG : ∀ q ∈ L, LnAt (upd H1 du (.frz od (.dK kvs))) q.2 (mxB f ks q.1 ks.length + 1) := fun q hq => let ⟨a, ⟨ys, e, l⟩, _⟩ := lb.ln q hq; ⟨ys, (upd_ne a).trans e, l⟩
    generalize upd H1 du (.frz od (.dK kvs)) = H2 at hG s02 lnG ⊢
    refine ⟨_, rfl, du, od, rfl, .inl ⟨kvs, hG, fun D hD => ?_⟩⟩
    refine lc_it walk_keys (fun i H' => L2.Same H2 H' ∧ H' D = some (.lst ((L.take i).map fun q => V.int (mxB f ks q.1 ks.length : Nat)))) ?_ ?_ ?_ ?_
    · exact ⟨Same.new hD, upd_same⟩
    · rintro i H' _ ⟨s5, _⟩
      exact s5 _ _ hG
    · rintro n v H0 H5 hn ⟨s5, hD5⟩ ⟨rfl, kk, vv, hk, rfl⟩
      have hn' : n < L.length := by omega
      obtain ⟨x, ex⟩ : ∃ x, x = L[n] := ⟨_, rfl⟩
      have en : L[n]? = some x := by rw [ex]; exact List.getElem?_eq_getElem hn'
      have ekk : kk = Sum.inr x.1 ∧ vv = V.ref x.2 := by
        rw [ekv, List.getElem?_map, en] at hk
        have := Option.some.inj hk
        exact ⟨(congrArg Prod.fst this).symm, (congrArg Prod.snd this).symm⟩
      obtain ⟨rfl, rfl⟩ := ekk
      have mx : x ∈ L := List.mem_of_getElem? en
      refine at_name (σ' := [some (.ref p), some (.ref r), some (.ref du), some (.str x.1)]) rfl ⟨rfl, yes_if ?_⟩
      obtain ⟨ys, hy, ly⟩ := (lnG x mx).mono s5
      have dg : DGet H5 du (.str x.1) (some (.ref x.2)) := .inl ⟨kvs, Sum.inr x.1, .inr ⟨od, s5 _ _ hG⟩, rfl, (valV_mem kn (List.mem_of_getElem? hk)).symm⟩
      refine ⟨_, rfl, _, rfl, du, _, rfl, dg, x.2, ys, rfl, .inl (SqL.of hy), _, _, rfl, rfl, _, hD5, by rw [List.length_map, List.length_take, sizeLine_eq]; omega, fun c o e => ?_, ?_⟩
      · rw [upd_ne (ne_of_none e hD)]
        exact s5 _ _ e
      · rw [upd_same, take_next' en, List.map_append, ly]
        have e1 : ((mxB f ks x.1 ks.length + 1 : Nat) : Int) - 1 = ((mxB f ks x.1 ks.length : Nat) : Int) := by omega
        show some (HO.lst (_ ++ [V.int (((mxB f ks x.1 ks.length + 1 : Nat) : Int) - 1)])) = _
        rw [e1]
        rfl
    · rintro H5 ⟨s5, hD5⟩
      rw [lkv, List.take_length] at hD5
      have nDu : D ≠ du := fun e => by rw [e, hG] at hD; cases hD
      refine ⟨s5 _ _ hG, ?_⟩
      refine ⟨D, L.map fun q => ((mxB f ks q.1 ks.length : Nat) : Int), rfl, SqL.of (by rw [upd_ne nDu, hD5, List.map_map]; rfl), ?_, fun m hm hb => ?_⟩
      · have := sqs_ne kw
        rw [← eL] at this
        rw [List.length_map]
        exact List.length_pos_iff.mpr fun e => this (by rw [e]; rfl)
      · obtain ⟨q, hq, rfl⟩ := List.mem_map.mp hm
        have : mxB f ks q.1 ks.length = mo f ks (sqs ws f) := mo_uniq (sqs_ne kw) ⟨q.1, by rw [← eL]; exact List.mem_map.mpr ⟨q, hq, rfl⟩, rfl⟩ fun x hx => by
          rw [← eL] at hx
          obtain ⟨z, hz, rfl⟩ := List.mem_map.mp hx
          have := hb _ (List.mem_map.mpr ⟨z, hz, rfl⟩)
          omega
        rw [this]
        exact k _ (Same.mut (s02.trans s5) hduH)
end
end KT
set_option Elab.async false
set_option linter.all false
set_option maxRecDepth 100000
set_option maxHeartbeats 2000000
set_option pp.maxSteps 900
namespace MnK
open PySem PySem.Spec PyProof.Rows L2 LamX NdefX
theorem okC {P : Program} {w : World} {K : PySem.W.Frag} {mg : Str → Option Value} {base : Heap} {x qual : Str} {st : Stmt} {p : Str × Option Str} {fd : FuncData} {N ps : List Str} {k : Nat} {sp : Sp} (F : Fun K x qual st (He.fAd K p) fd) (S : FnScope N ps (defScope st)) (len : ∀ vs H Q E, sp vs H Q E → vs.length = ps.length)
    (hbody : ∀ (A : Around) (outer : List Env) (s : Shared) (H : Hp) (vs : List V) (Q : VK) (E : XK), Room k (A.deeper (envOfC qual (defScope st) s.heap.objs.size (He.fAd K p) (.ref (He.codeOf K p)))) → sp vs H Q E →
      ∃ t, PSs (cxOf CX0 P w K mg base N qual (defScope st) (He.fAd K p) (.ref (He.codeOf K p)) A outer s H E).nox (defBody st) t ∧ t { nx := fun _ H' => Q .non H', rt := Q } (start N vs) H) : FnOk P w K mg base CX0 (k + 1) (He.fAd K p) fd ps sp := by
  obtain ⟨oc, od, kV, doc, pm, an, cdv, ct, osl, rfl, lk, hcd⟩ := F.ex
  obtain ⟨c, rfl⟩ := He.codeIn_ref hcd
  have e : He.codeOf K p = c := He.codeOf_eq lk rfl
  subst e
  refine fn_of lk hcd S len fun A outer s H vs Q E hr hsp => ?_
  obtain ⟨t, h, q⟩ := hbody A outer s H vs Q E hr hsp
  exact ⟨t, h.nox, q⟩
/-- nothing but a table stands there -/
def Fre (H : Hp) (q : Addr) : Prop := ∀ o, H q = some o → ∃ ps, o = .tbl ps
theorem fre_none {H : Hp} {q : Addr} (h : H q = none) : Fre H q := fun o e => by rw [h] at e; cases e
theorem same_ext {H H' : Hp} (s : L2.Same H H') : ExtN H H' := ExtN.of s
theorem lst_code (xs : List V) (c : Addr) (q : Str) : HO.lst xs ≠ CodeO c q := fun z => by
  unfold CodeO at z
  cases z
theorem tabs_upd {T : List (Addr × Str)} {H : Hp} {a : Addr} {xs : List V} {o : HO} (t : Tabs T H) (ha : H a = some (.lst xs)) : Tabs T (upd H a o) := fun p hp => by
  obtain ⟨ps, h1, h2, h3⟩ := t p hp
  refine ⟨ps, (upd_ne fun e => ?_).trans h1, h2, fun pos cv hc => ?_⟩
  · rw [e, ha] at h1; cases h1
  · obtain ⟨c, e1, e2⟩ := h3 pos cv hc
    refine ⟨c, e1, (upd_ne fun e => ?_).trans e2⟩
    rw [e, ha] at e2
    exact lst_code _ _ _ (Option.some.inj e2)
theorem tabs_but {T : List (Addr × Str)} {H H' : Hp} {a : Addr} {xs : List V} (t : Tabs T H) (ha : H a = some (.lst xs)) (k : ∀ b o, b ≠ a → H b = some o → H' b = some o) : Tabs T H' := fun p hp => by
  obtain ⟨ps, h1, h2, h3⟩ := t p hp
  refine ⟨ps, k _ _ (fun e => ?_) h1, h2, fun pos cv hc => ?_⟩
  · rw [e, ha] at h1; cases h1
  · obtain ⟨c, e1, e2⟩ := h3 pos cv hc
    refine ⟨c, e1, k _ _ (fun e => ?_) e2⟩
    rw [e, ha] at e2
    exact lst_code _ _ _ (Option.some.inj e2)
end MnK
namespace KT
open PySem L2 PyProof.Rows DTp TxS LamX MnK
theorem KdAt.ext {C : Addr} {H H' : Hp} {p : Addr} {ws : List Str} {f : Str → Str → Str} (e : ExtN H H') (h : KdAt C H p ws f) : KdAt C H' p ws f :=
  let ⟨dx, d, l, k⟩ := h
  ⟨dx, d, l, e _ _ k.ob (fun ps z => by cases z), e _ _ k.dc (fun ps z => by cases z), e _ _ k.ls (fun ps z => by cases z), k.kw⟩
/-- the table of the def that makes a lambda -/
def tbK (K : PySem.W.Frag) : List (Addr × Str) := [((He.cT K ("scarce_row", none)).2, ("scarce_row" : Str) ++ ".<locals>." ++ "<lambda>")]
end KT
set_option Elab.async false
set_option linter.all false
set_option maxRecDepth 100000
set_option maxHeartbeats 2000000
set_option pp.maxSteps 900
namespace KT
open PySem L2 PyProof.Rows DTp TxS
open LamX MnK
def spScarce (K : PySem.W.Frag) (C : Addr) : Sp := fun vs H Q _ => ∃ (p : Addr) (ws : List Str) (f : Str → Str → Str) (n : Nat), vs = [.ref p, .int n] ∧ KdAt C H p ws f ∧ 1 ≤ n ∧ n ≤ 12 ∧ ws.length ^ n ≤ 4096 ∧ Tabs (tbK K) H ∧
  ∀ (q : Addr) (row : List Str) (H' : Hp), ExtN H H' → Tabs (tbK K) H' → H q = none → H' q = some (.lst (row.map V.str)) → row ∈ alr ws n → (∀ r ∈ alr ws n, mo f row (sqs ws f) ≤ mo f r (sqs ws f)) → Q (.ref q) H'
structure ScC (P : Program) (w : World) (K : PySem.W.Frag) (mg : Str → Option Value) (base : Heap) (C : Addr) : Prop where
  chk : Cee P w K mg base 1 "check_kinds" ["kinds"] (spCheckKinds C)
  cc : Cee P w K mg base 2 "check_count" ["number", "least"] spCheckCount
  all : Cee P w K mg base 2 "all_rows" ["kinds", "number"] (spAlr C)
  mos : Cee P w K mg base 7 "_most_in" ["kinds", "row"] (spMost C)
theorem alr_ne {ws : List Str} (h : 0 < ws.length) (n : Nat) : alr ws n ≠ [] := fun e => by
  have := alr_len ws n
  rw [e] at this
  have := Nat.pow_pos (n := n) h
  simp at *
  omega
/-- m is the least that a row of n kinds has -/
def Lst (f : Str → Str → Str) (ws : List Str) (n m : Nat) : Prop := (∃ row ∈ alr ws n, m = mo f row (sqs ws f)) ∧ ∀ r ∈ alr ws n, m ≤ mo f r (sqs ws f)
theorem Lst.uniq {f : Str → Str → Str} {ws : List Str} {n m m' : Nat} (h : Lst f ws n m) (h' : Lst f ws n m') : m = m' := by
  obtain ⟨⟨r, hr, e⟩, l⟩ := h
  obtain ⟨⟨r', hr', e'⟩, l'⟩ := h'
  have a := l r' hr'
  have b := l' r hr
  omega
def spSure (K : PySem.W.Frag) (C : Addr) : Sp := fun vs H Q _ => ∃ (p : Addr) (ws : List Str) (f : Str → Str → Str) (n : Nat), vs = [.ref p, .int n] ∧ KdAt C H p ws f ∧ 1 ≤ n ∧ n ≤ 12 ∧ ws.length ^ n ≤ 4096 ∧ Tabs (tbK K) H ∧
  ∀ (m : Nat) (H' : Hp), ExtN H H' → Tabs (tbK K) H' → Lst f ws n m → Q (.int m) H'
structure SuC (P : Program) (w : World) (K : PySem.W.Frag) (mg : Str → Option Value) (base : Heap) (C : Addr) : Prop where
  sc : Cee P w K mg base 10 "scarce_row" ["kinds", "number"] (spScarce K C)
  mos : Cee P w K mg base 7 "_most_in" ["kinds", "row"] (spMost C)
def spIsSc (K : PySem.W.Frag) (C : Addr) : Sp := fun vs H Q _ => ∃ (p r : Addr) (ws : List Str) (f : Str → Str → Str) (n : Nat) (row : List Str), vs = [.ref p, .int n, .ref r] ∧ KdAt C H p ws f ∧ 1 ≤ n ∧ n ≤ 12 ∧ ws.length ^ n ≤ 4096 ∧ Tabs (tbK K) H ∧ H r = some (.lst (row.map V.str)) ∧ row.length ≤ 12 ∧ (∀ x ∈ row, x ∈ ws) ∧
  ∀ (b : Bool) (H' : Hp), ExtN H H' → Tabs (tbK K) H' → (b = true ↔ row.length = n ∧ Lst f ws n (mo f row (sqs ws f))) → Q (.bl b) H'
structure IsC (P : Program) (w : World) (K : PySem.W.Frag) (mg : Str → Option Value) (base : Heap) (C : Addr) : Prop where
  chk : Cee P w K mg base 1 "check_kinds" ["kinds"] (spCheckKinds C)
  cc : Cee P w K mg base 2 "check_count" ["number", "least"] spCheckCount
  iks : Cee P w K mg base 3 "is_list_of_kinds" ["kinds", "value"] (spIsKinds C)
  mos : Cee P w K mg base 7 "_most_in" ["kinds", "row"] (spMost C)
  sur : Cee P w K mg base 11 "sure_stretches" ["kinds", "number"] (spSure K C)
section
variable {P : Program} {w : World} {K : PySem.W.Frag} {mg : Str → Option Value} {base : Heap} {C S G : Addr}
abbrev nScarce : List Str := ["kinds", "number"]
theorem scScarce : FnScope nScarce ["kinds", "number"] (defScope sScarce) := ⟨rfl, rfl, rfl, by decide +kernel, rfl, by decide +kernel, by decide +kernel⟩
theorem ok_scarce {fd : FuncData} (F : Fun K "scarce_row" "scarce_row" sScarce (He.fAd K ("scarce_row", none)) fd) (B0 : Blt mg) (M : ScC P w K mg base C) (TB : LamX.TabB base mg (He.codeOf K ("scarce_row", none)) (He.cT K ("scarce_row", none)).2) : FnOk P w K mg base CX0 10 (He.fAd K ("scarce_row", none)) fd ["kinds", "number"] (spScarce K C) := by
  refine MnK.okC F scScarce (fun vs H Q E h => ?_) (fun A outer s H vs Q E hr h => ?_)
  · obtain ⟨p, ws, f, n, rfl, _⟩ := h
    rfl
  · obtain ⟨p, ws, f, n, rfl, kd, n1, n12, few, hT, k⟩ := h
    have nd := scScarce.nd
    refine ⟨_, pss_cons (ps_expr (pe_c M.chk hr rfl (pa_cons (pv 0) (pa_nil))))
      (pss_cons (ps_expr (pe_c M.cc hr rfl (pa_cons (pv 1) (pa_cons (pe_int) (pa_nil)))))
      (pss_one (ps_ret (MnK.pe_minLam1 (N := ["row", "kinds"]) (fr := ["kinds"]) (a := "row") (js := [0]) (k := 7) (j := 0) (T := tbK K) (c := He.codeOf K ("scarce_row", none)) (P := (He.cT K ("scarce_row", none)).2) (tb := tCall (spMost C) [] E0 (tCons (tVar 1) (tCons (tVar 0) tNil))) (cpos := ⟨0, 0, 0, 0⟩) (kp2 := ⟨0, 0, 0, 0⟩) rfl B0.min (pe_c M.all hr rfl (pa_cons (pv 0) (pa_cons (pv 1) (pa_nil)))) rfl TB rfl (List.mem_singleton.mpr rfl) (fun p hp _ => by rw [List.mem_singleton.mp hp]; rfl) rfl (NdefX.nscope_by (by decide +kernel)) (fun _ _ _ _ _ _ => rfl) hr (NdefX.ndef_free (sc := defScope sScarce) (fr := ["kinds"]) (by decide +kernel)) (NdefX.ndef_fr (sc := defScope sScarce) (by decide +kernel)) rfl (fun A outer s H f c' hr' => pe_c M.mos hr' rfl (pa_cons (pv 1) (pa_cons (pv 0) pa_nil))))))), ?_⟩
    have kw : KW ws f := let ⟨_, _, _, q⟩ := kd; q.kw
    refine ⟨_, rfl, p, ws, f, rfl, kd, ?_⟩
    refine ⟨_, rfl, _, _, rfl, by omega, by omega, ?_⟩
    refine ⟨_, rfl, _, rfl, p, ws, f, n, rfl, kd, n12, few, fun q0 zs H1 s1 q00 rw1 ez => ?_⟩
    obtain ⟨rs, ers⟩ : ∃ rs, rs = zs.map (·.2) := ⟨_, rfl⟩
    have kfj : ∀ j z, zs[j]? = some z → rs.getD j [] = z.2 := fun j z e => by rw [ers, List.getD_eq_getElem?_getD, List.getElem?_map, e]; rfl
    have getz : ∀ (j : Nat) (x : V), (zs.map fun z => V.ref z.1)[j]? = some x → ∃ z, zs[j]? = some z ∧ x = V.ref z.1 := fun j x hx => by
      rw [List.getElem?_map] at hx
      cases e : zs[j]? with
      | none => rw [e] at hx; cases hx
      | some z => rw [e] at hx; exact ⟨z, rfl, (Option.some.inj hx).symm⟩
    have inz : ∀ z ∈ zs, z.2 ∈ alr ws n := fun z hz => by rw [← ez]; exact List.mem_map.mpr ⟨z, hz, rfl⟩
    refine ⟨q0, zs.map (fun z => V.ref z.1), fun j => ((mo f (rs.getD j []) (sqs ws f) : Nat) : Int), rfl, SqL.of rw1.at', ?_, hT.ext s1, fun H2 eN T2 => ⟨fun H3 j x s3 hx => ?_, fun i x H4 hx bm s4 => ?_⟩⟩
    · intro e
      have := alr_ne kw.pos n
      rw [← ez] at this
      exact this (by rw [List.map_eq_nil_iff.mp e]; rfl)
    · obtain ⟨z, hz, rfl⟩ := getz j x hx
      have mz := List.mem_of_getElem? hz
      obtain ⟨lz, mk⟩ := alr_mem.mp (inz z mz)
      refine ⟨_, rfl, _, rfl, p, z.1, ws, f, z.2, rfl, ((kd.mono s1).ext eN).mono s3, s3 _ _ (eN _ _ (rw1.row z mz) (fun ps e => by cases e)), by omega, mk, fun H' s => ⟨?_, s⟩⟩
      show V.int _ = V.int ((mo f (rs.getD j []) (sqs ws f) : Nat) : Int)
      rw [kfj j z hz]
    · obtain ⟨z, hz, rfl⟩ := getz i x hx
      have mz := List.mem_of_getElem? hz
      refine k z.1 z.2 H4 (((same_ext s1).trans eN).trans (same_ext s4)) (T2.ext s4) (rw1.new z mz) (s4 _ _ (eN _ _ (rw1.row z mz) (fun ps e => by cases e))) (inz z mz) fun r hr => ?_
      rw [← ez] at hr
      obtain ⟨y, hy, rfl⟩ := List.mem_map.mp hr
      obtain ⟨j, hj⟩ := List.mem_iff_getElem?.mp hy
      have lt : j < zs.length := (List.getElem?_eq_some_iff.mp hj).1
      have b : ((mo f (rs.getD i []) (sqs ws f) : Nat) : Int) ≤ ((mo f (rs.getD j []) (sqs ws f) : Nat) : Int) := (bm j (by rw [List.length_map]; exact lt)).1
      rw [kfj i z hz, kfj j y hj] at b
      omega
abbrev nSure : List Str := ["kinds", "number"]
theorem scSure : FnScope nSure ["kinds", "number"] (defScope sSure) := ⟨rfl, rfl, rfl, by decide +kernel, rfl, by decide +kernel, by decide +kernel⟩
theorem ok_sure {g : Addr} {fd : FuncData} (F : Fun K "sure_stretches" "sure_stretches" sSure g fd) (M : SuC P w K mg base C) : FnOk P w K mg base CX0 11 g fd ["kinds", "number"] (spSure K C) := by
  refine F.ok scSure (fun vs H Q E h => ?_) (fun cdv A outer s H vs Q E hr h => ?_)
  · obtain ⟨p, ws, f, n, rfl, _⟩ := h
    rfl
  · obtain ⟨p, ws, f, n, rfl, kd, n1, n12, few, hT, k⟩ := h
    have nd := scSure.nd
    refine ⟨_, pss_one (ps_ret (pe_c M.mos hr rfl (pa_cons (pv 0) (pa_cons (pe_c M.sc hr rfl (pa_cons (pv 0) (pa_cons (pv 1) (pa_nil)))) (pa_nil))))), ?_⟩
    refine ⟨_, rfl, _, rfl, _, rfl, p, ws, f, n, rfl, kd, n1, n12, few, hT, fun q row H1 e1 T1 q0 hq mr least => ?_⟩
    obtain ⟨lr, mk⟩ := alr_mem.mp mr
    exact ⟨p, q, ws, f, row, rfl, kd.ext e1, hq, by omega, mk, fun H2 s2 => k _ H2 (e1.trans (same_ext s2)) (T1.ext s2) ⟨⟨row, mr, rfl⟩, least⟩⟩
abbrev nIsSc : List Str := ["kinds", "number", "value"]
theorem scIsSc : FnScope nIsSc ["kinds", "number", "value"] (defScope sIsSc) := ⟨rfl, rfl, rfl, by decide +kernel, rfl, by decide +kernel, by decide +kernel⟩
theorem ok_isSc {g : Addr} {fd : FuncData} (F : Fun K "is_scarce_row" "is_scarce_row" sIsSc g fd) (B0 : Blt mg) (M : IsC P w K mg base C) : FnOk P w K mg base CX0 12 g fd ["kinds", "number", "value"] (spIsSc K C) := by
  refine F.ok scIsSc (fun vs H Q E h => ?_) (fun cdv A outer s H vs Q E hr h => ?_)
  · obtain ⟨p, r, ws, f, n, row, rfl, _⟩ := h
    rfl
  · obtain ⟨p, r, ws, f, n, row, rfl, kd, n1, n12, few, hT, hr0, lrow, mk, k⟩ := h
    have nd := scIsSc.nd
    refine ⟨_, pss_cons (ps_expr (pe_c M.chk hr rfl (pa_cons (pv 0) (pa_nil))))
      (pss_cons (ps_expr (pe_c M.cc hr rfl (pa_cons (pv 1) (pa_cons (pe_int) (pa_nil)))))
      (pss_cons (ps_if (pt_cut <| PW.pt (pw_or (pt_not (pt_val (pe_c M.iks hr rfl (pa_cons (pv 0) (pa_cons (pv 2) (pa_nil)))))) (pw_or1 (pt_cmpR op_ne (pe_callB call_len_seq (by rfl) B0.len PySem.boot_len (pa_cons (pv 2) (pa_nil))) (pv 1) (nomark _))))) (pss_one (ps_ret (pe_bl))) pss_nil)
      (pss_one (ps_ret (pe_cmpR op_eq (pe_c M.mos hr rfl (pa_cons (pv 0) (pa_cons (pv 2) (pa_nil)))) (pe_c M.sur hr rfl (pa_cons (pv 0) (pa_cons (pv 1) (pa_nil)))) (nomark _)))))), ?_⟩
    have ll : (row.map V.str).length = row.length := List.length_map _
    refine ⟨_, rfl, p, ws, f, rfl, kd, ?_⟩
    refine ⟨_, rfl, _, _, rfl, by omega, by omega, ?_⟩
    refine ⟨fun b H' => L2.Same H H' ∧ (b = true ↔ row.length ≠ n), ?_, ?_⟩
    · refine ⟨_, rfl, _, rfl, p, r, ws, f, row, rfl, kd, hr0, by omega, mk, fun H1 s1 => ⟨_, rfl, ?_⟩⟩
      refine iteF ?_
      refine ⟨_, rfl, r, _, rfl, .inl (SqL.of (s1 _ _ hr0)), _, rfl, rfl, _, rfl, s1, ?_⟩
      rw [ll]
      have e : (V.int (row.length : Nat) = V.int (n : Nat)) ↔ row.length = n := ⟨fun h => Int.ofNat.inj (V.int.inj h), fun h => by rw [h]⟩
      by_cases c : row.length = n
      · rw [decide_eq_true (e.mpr c)]
        exact ⟨fun h => (by cases h), fun h => absurd c h⟩
      · rw [decide_eq_false fun h => c (e.mp h)]
        exact ⟨fun _ => c, fun _ => rfl⟩
    · rintro b H1 ⟨s1, hb⟩
      refine ite2 (fun h1 => ?_) (fun h1 => ?_)
      · exact k _ H1 (same_ext s1) (hT.ext s1) ⟨fun h => (by cases h), fun h => absurd h.1 (hb.mp h1)⟩
      · have ln : row.length = n := Classical.byContradiction fun q => h1 (hb.mpr q)
        refine ⟨_, rfl, _, rfl, p, r, ws, f, row, rfl, kd.mono s1, s1 _ _ hr0, by omega, mk, fun H2 s2 => ?_⟩
        have s12 := s1.trans s2
        refine ⟨_, rfl, _, rfl, p, ws, f, n, rfl, kd.mono s12, n1, n12, few, hT.ext s12, fun m H3 e3 T3 hm => ⟨rfl, ?_⟩⟩
        refine k _ H3 ((same_ext s12).trans e3) T3 ⟨fun h => ?_, fun h => ?_⟩
        · have e := Int.ofNat.inj (V.int.inj (of_decide_eq_true h))
          exact ⟨ln, by rw [e]; exact hm⟩
        · have := h.2.uniq hm
          rw [this]
          exact decide_eq_true rfl
end
end KT
set_option Elab.async false
set_option linter.all false
set_option maxRecDepth 100000
set_option maxHeartbeats 4000000
namespace KT
open PySem L2 PyProof.Rows DTp TxS
section
variable {ws : List Str} {f : Str → Str → Str}
theorem cut_to (xs : List V) (j : Nat) (h : j ≤ xs.length) : cutV xs none (some (j : Int)) = xs.take j := by
  unfold cutV
  have e1 : HT.sIx xs.length 0 none = 0 := rfl
  have e2 : HT.sIx xs.length xs.length (some (j : Int)) = j := by
    rw [HT.sIx_nat]; omega
  rw [e1, e2, List.drop_zero, Nat.sub_zero]
theorem cut_from (xs : List V) (j : Nat) (h : j ≤ xs.length) : cutV xs (some (j : Int)) none = xs.drop j := by
  unfold cutV
  have e1 : HT.sIx xs.length xs.length none = xs.length := rfl
  have e2 : HT.sIx xs.length 0 (some (j : Int)) = j := by
    rw [HT.sIx_nat]; omega
  rw [e1, e2, List.take_of_length_le]
  rw [List.length_drop]
  exact Nat.le_refl _
theorem Pws.uniq {x : Str} {L a L' a' : Nat} (h : Pws f x L a) (h' : Pws f x L' a') : L = L' ∧ a = a' := by
  have hl : L = L' := by
    rcases Nat.lt_trichotomy L L' with z | z | z
    · exact absurd h.eq.symm (h'.dis a L h.lt z)
    · exact z
    · exact absurd h'.eq.symm (h.dis a' L' h'.lt z)
  subst hl
  exact ⟨rfl, h.inj h.lt h'.lt (h.eq.symm.trans h'.eq)⟩
end
end KT
set_option Elab.async false
set_option linter.all false
set_option maxRecDepth 100000
set_option maxHeartbeats 2000000
set_option pp.maxSteps 900
namespace KT
open PySem L2 PyProof.Rows DTp TxS
theorem cut_mid (xs : List V) (i j : Nat) (h : i ≤ j) (h2 : j ≤ xs.length) : cutV xs (some (i : Int)) (some (j : Int)) = (xs.take j).drop i := by
  unfold cutV
  have e1 : HT.sIx xs.length 0 (some (i : Int)) = i := by rw [HT.sIx_nat]; omega
  have e2 : HT.sIx xs.length xs.length (some (j : Int)) = j := by rw [HT.sIx_nat]; omega
  rw [e1, e2, List.drop_take]
theorem mo_snoc {f : Str → Str → Str} {ks l : List Str} {x : Str} : mo f ks (l ++ [x]) = max (mo f ks l) (mxB f ks x ks.length) := by
  unfold mo
  rw [List.foldl_append]
  rfl
theorem flat_rep (v : V) (m : Nat) : (List.replicate m [v]).flatten = List.replicate m v := by
  induction m with
  | zero => rfl
  | succ m ih => rw [List.replicate_succ, List.flatten_cons, ih, List.replicate_succ]; rfl
theorem set_range (g : Nat → V) (m j : Nat) (v : V) : ((List.range m).map g).set j v = (List.range m).map fun i => if i = j then v else g i := by
  refine List.ext_getElem? fun i => ?_
  rw [List.getElem?_set, List.length_map, List.length_range, List.getElem?_map, List.getElem?_map]
  by_cases h : i < m
  · rw [List.getElem?_range h]
    by_cases c : j = i
    · subst c; rw [if_pos rfl, if_pos h]; show _ = some (if j = j then v else g j); rw [if_pos rfl]
    · rw [if_neg c]; show some (g i) = some (if i = j then v else g i); rw [if_neg (Ne.symm c)]
  · have e : (List.range m)[i]? = none := List.getElem?_eq_none (by rw [List.length_range]; omega)
    rw [e]
    by_cases c : j = i
    · subst c; rw [if_pos rfl, if_neg h]; rfl
    · rw [if_neg c]; rfl
theorem btw_lp {f : Str → Str → Str} {ks : List Str} {i j : Nat} (hij : i < j) (hj : j ≤ ks.length) : ∃ y ys, (ks.take j).drop i = y :: ys ∧ lp f (y :: ys) = btw f ks (i, j) := by
  cases e : (ks.take j).drop i with
  | nil =>
    have := congrArg List.length e
    rw [List.length_drop, List.length_take, List.length_nil] at this
    omega
  | cons y ys => exact ⟨y, ys, rfl, by unfold btw; show _ = lp f ((ks.take j).drop i); rw [e]⟩
theorem fz_out {H0 H : Hp} {D : Addr} {zr : List Str} : ∀ {L : List (Str × V)}, (∀ q ∈ L, ∃ a, q.2 = V.ref a ∧ a ≠ D ∧ H a = some (.lst ((zr ++ [q.1]).map V.str)) ∧ H0 a = none) →
    ∃ ys : List (Addr × List Str), L.map (·.2) = ys.map (fun z => V.ref z.1) ∧ ys.map (·.2) = (L.map (·.1)).map (fun k => zr ++ [k]) ∧ ∀ z ∈ ys, z.1 ≠ D ∧ H z.1 = some (.lst (z.2.map V.str)) ∧ H0 z.1 = none
  | [], _ => ⟨[], rfl, rfl, fun z h => by cases h⟩
  | (k, v) :: L, h => by
    obtain ⟨a, e, h1, h2, h3⟩ := h _ List.mem_cons_self
    obtain ⟨ys, e1, e2, e3⟩ := fz_out (L := L) fun q hq => h q (List.mem_cons_of_mem _ hq)
    have e : v = V.ref a := e
    subst e
    refine ⟨(a, zr ++ [k]) :: ys, by rw [List.map_cons, List.map_cons, e1], by rw [List.map_cons, e2]; rfl, fun z hz => ?_⟩
    rcases List.mem_cons.mp hz with rfl | hz
    · exact ⟨h1, h2, h3⟩
    · exact e3 z hz
def spTog : Sp := fun vs H Q _ => ∃ (d r : Addr) (ws : List Str) (f : Str → Str → Str) (x : Str) (ks : List Str), vs = [.ref d, .ref r] ∧ H d = some (.dT (tabW ws f)) ∧ KW ws f ∧ H r = some (.lst ((x :: ks).map V.str)) ∧ (x :: ks).length ≤ 100 ∧ (∀ z ∈ x :: ks, z ∈ ws) ∧
  ∀ H', L2.Same H H' → Q (.str (lp f (x :: ks))) H'
def spMostL : Sp := fun vs H Q _ => ∃ (d r : Addr) (ws : List Str) (f : Str → Str → Str) (ks : List Str), vs = [.ref d, .ref r] ∧ H d = some (.dT (tabW ws f)) ∧ KW ws f ∧ H r = some (.lst (ks.map V.str)) ∧ ks.length ≤ 100 ∧ (∀ z ∈ ks, z ∈ ws) ∧
  ∀ H', L2.Same H H' → Q (.int (mo f ks (sqs ws f) : Nat)) H'
structure MoC (P : Program) (w : World) (K : PySem.W.Frag) (mg : Str → Option Value) (base : Heap) : Prop where
  sqr : Cee P w K mg base 2 "_law_squares" ["_law_table_here"] spSquares
  tog : Cee P w K mg base 1 "_law_together" ["_law_table_here", "_law_row"] spTog
def spRowsL : Sp := fun vs H Q _ => ∃ (l : Addr) (ws : List Str) (n : Nat), vs = [.ref l, .int n] ∧ H l = some (.lst (ws.map V.str)) ∧ 0 < ws.length ∧ ws.length ≤ 4 ∧ n ≤ 12 ∧ ws.length ^ n ≤ 4096 ∧
  ∀ (q : Addr) (zs : List (Addr × List Str)) (H' : Hp), L2.Same H H' → H q = none → RwsAt H H' q zs → zs.map (·.2) = alr ws n → Q (.ref q) H'
section
variable {P : Program} {w : World} {K : PySem.W.Frag} {mg : Str → Option Value} {base : Heap} {C S G : Addr}
abbrev nTog : List Str := ["_law_table_here", "_law_row", "_law_found", "_law_kind"]
theorem scTog : FnScope nTog ["_law_table_here", "_law_row"] (defScope sTog) := ⟨rfl, rfl, rfl, by decide +kernel, rfl, by decide +kernel, by decide +kernel⟩
theorem ok_tog {g : Addr} {fd : FuncData} (F : Fun K "_law_together" "_law_together" sTog g fd)  : FnOk P w K mg base CX0 1 g fd ["_law_table_here", "_law_row"] spTog := by
  refine F.ok scTog (fun vs H Q E h => ?_) (fun cdv A outer s H vs Q E hr h => ?_)
  · obtain ⟨d, r, ws, f, x, ks, rfl, _⟩ := h
    rfl
  · obtain ⟨d, r, ws, f, x, ks, rfl, hd, kw, hr0, few, mk, k⟩ := h
    have nd := scTog.nd
    refine ⟨_, pss_cons (ps_set (i := 2) nd rfl (Or.inl rfl) (pe_ix ix_list (pv 1) pe_int (fun _ _ => rfl)))
      (pss_cons (ps_for PassesOwn.never rfl (pi_list (pe_slice sl_list (pv 1) (po_some (pe_int)) (po_none))) (pg_name (i := 3) nd rfl (Or.inl rfl)) (pss_one (ps_set (i := 2) nd rfl (Or.inl rfl) (pe_dget (hu_of hr) (pv 0) (pe_tup (pa_cons (pv 2) (pa_cons (pv 3) (pa_nil)))) (fun _ _ => rfl)))))
      (pss_one (ps_ret (pv 2)))), ?_⟩
    have ndw := kw.asc.nodup
    refine ⟨_, rfl, r, _, _, _, rfl, rfl, SqL.of hr0, atI_nat (j := 0) rfl, ?_⟩
    refine at_name (σ' := [some (.ref d), some (.ref r), some (.str x), none]) rfl ?_
    refine ⟨_, rfl, _, rfl, r, _, rfl, SqL.of hr0, fun p1 p10 => ?_⟩
    have ec : cutV ((x :: ks).map V.str) (some 1) none = ks.map V.str := cut_from ((x :: ks).map V.str) 1 (by simp)
    rw [ec]
    have s1 := Same.new (H := H) (o := .lst (ks.map V.str)) p10
    have hp1 : upd H p1 (.lst (ks.map V.str)) p1 = _ := upd_same
    generalize upd H p1 (.lst (ks.map V.str)) = H1 at s1 hp1 ⊢
    have tdW : TabW H d ws f := ⟨_, .inl hd, tabW_tb ndw⟩
    have mx := mk x List.mem_cons_self
    refine ⟨p1, rfl, ⟨_, SqL.of hp1⟩, ?_⟩
    refine for_list (K := K) (a := p1) (xs := ks.map V.str) (fun i σ H' => ∃ x3 : Option V, σ = [some (.ref d), some (.ref r), some (.str (lp f (x :: ks.take i))), x3] ∧ L2.Same H1 H') ?_ ?_ ?_ ?_
    · exact ⟨_, rfl, fun _ _ e => e⟩
    · rintro i σ H' hi ⟨x3, rfl, s2⟩
      exact SqL.of (s2 _ _ hp1)
    · rintro i v σ H2 hv ⟨x3, rfl, s2⟩
      obtain ⟨y, ey, rfl⟩ := str_get hv
      refine at_name (σ' := [some (.ref d), some (.ref r), some (.str (lp f (x :: ks.take i))), some (.str y)]) rfl ?_
      have my := mk y (List.mem_cons_of_mem _ (List.mem_of_getElem? ey))
      have ml : lp f (x :: ks.take i) ∈ ws := lp_mem kw (fun z hz => by
        rcases List.mem_cons.mp hz with rfl | hz
        · exact mx
        · exact mk z (List.mem_cons_of_mem _ (List.mem_of_mem_take hz))) (by simp)
      refine ⟨_, rfl, _, rfl, _, rfl, (by show 2 ≤ sizeLine; decide), fun t1 ht10 => ?_⟩
      have s3 := Same.new (H := H2) (o := .tup [.str (lp f (x :: ks.take i)), .str y]) ht10
      have ht1 : upd H2 t1 (.tup [.str (lp f (x :: ks.take i)), .str y]) t1 = _ := upd_same
      generalize upd H2 t1 (.tup [.str (lp f (x :: ks.take i)), .str y]) = H3 at s3 ht1 ⊢
      refine ⟨d, _, rfl, (tdW.mono (s1.trans (s2.trans s3))).get ml my ht1, ?_⟩
      have e2 : f (lp f (x :: ks.take i)) y = lp f (x :: ks.take (i + 1)) := by
        rw [take_next' ey]
        exact (lp_snoc (f := f) (y := y) (ys := x :: ks.take i) (by simp)).symm
      rw [e2]
      exact ⟨_, rfl, s2.trans s3⟩
    · rintro σ H2 ⟨x3, rfl, s2⟩
      rw [List.length_map, List.take_length]
      exact ⟨_, rfl, k H2 (s1.trans s2)⟩
abbrev nMoL : List Str := ["_law_table_here", "_law_row", "_law_found", "_law_kind", "_law_best", "_law_last", "_law_first"]
theorem scMoL : FnScope nMoL ["_law_table_here", "_law_row"] (defScope sMoL) := ⟨rfl, rfl, rfl, by decide +kernel, rfl, by decide +kernel, by decide +kernel⟩
theorem ok_moL {g : Addr} {fd : FuncData} (F : Fun K "_law_most" "_law_most" sMoL g fd) (B0 : Blt mg) (M : MoC P w K mg base) : FnOk P w K mg base CX0 3 g fd ["_law_table_here", "_law_row"] spMostL := by
  refine F.ok scMoL (fun vs H Q E h => ?_) (fun cdv A outer s H vs Q E hr h => ?_)
  · obtain ⟨d, r, ws, f, ks, rfl, _⟩ := h
    rfl
  · obtain ⟨d, r, ws, f, ks, rfl, hd, kw, hr0, few, mk, k⟩ := h
    have nd := scMoL.nd
    refine ⟨_, pss_cons (ps_set (i := 2) nd rfl (Or.inl rfl) (pe_int))
      (pss_cons (ps_for PassesOwn.never rfl (pi_list (pe_c M.sqr hr rfl (pa_cons (pv 0) (pa_nil)))) (pg_name (i := 3) nd rfl (Or.inl rfl)) (pss_cons (ps_set (i := 4) nd rfl (Or.inl rfl) (pe_op op_rep (pe_lst (pa_cons (pe_int) (pa_nil))) (pe_op op_add (pe_callB call_len_seq (by rfl) B0.len PySem.boot_len (pa_cons (pv 1) (pa_nil))) (pe_int))))
      (pss_cons (ps_for PassesOwn.never rfl (pi_range2 rfl B0.range (pa_cons (pe_int) (pa_cons (pe_op op_add (pe_callB call_len_seq (by rfl) B0.len PySem.boot_len (pa_cons (pv 1) (pa_nil))) (pe_int)) (pa_nil)))) (pg_name (i := 5) nd rfl (Or.inl rfl)) (pss_one (ps_for PassesOwn.never rfl (pi_range1 rfl B0.range (pa_cons (pv 5) (pa_nil))) (pg_name (i := 6) nd rfl (Or.inl rfl)) (pss_one (ps_if (pt_cmpR op_eq (pe_c M.tog hr rfl (pa_cons (pv 0) (pa_cons (pe_slice sl_list (pv 1) (po_some (pv 6)) (po_some (pv 5))) (pa_nil)))) (pv 3) (nomark _)) (pss_one (ps_asg (pe_callB (call_max2 rfl) (by rfl) B0.max boot_max (pa_cons (pe_ix ix_list (pv 4) (pv 5) (fun _ _ => rfl)) (pa_cons (pe_op op_add (pe_ix ix_list (pv 4) (pv 6) (fun _ _ => rfl)) (pe_int)) (pa_nil)))) (pg_sub (pv 4) (pv 5) set_list))) pss_nil)))))
      (pss_one (ps_set (i := 2) nd rfl (Or.inl rfl) (pe_callB (cr_max rfl) (by rfl) B0.max (by decide +kernel) (pa_cons (pe_op op_cat (pe_lst (pa_cons (pv 2) (pa_nil))) (pv 4)) (pa_nil))))))))
      (pss_one (ps_ret (pv 2)))), ?_⟩
    have ll : (ks.map V.str).length = ks.length := List.length_map _
    refine at_name (σ' := [some (.ref d), some (.ref r), some (.int 0), none, none, none, none]) rfl ?_
    refine ⟨_, rfl, d, ws, f, rfl, hd, kw, fun q0 H1 s1 q00 hq0 => ?_⟩
    refine ⟨q0, rfl, ⟨_, SqL.of hq0⟩, ?_⟩
    refine for_list (K := K) (a := q0) (xs := (sqs ws f).map V.str) (fun i σ H' => ∃ x3 x4 x5 x6 : Option V, σ = [some (.ref d), some (.ref r), some (.int (mo f ks ((sqs ws f).take i) : Nat)), x3, x4, x5, x6] ∧ L2.Same H1 H') ?_ ?_ ?_ ?_
    · exact ⟨_, _, _, _, rfl, fun _ _ e => e⟩
    · rintro i σ H' hi ⟨x3, x4, x5, x6, rfl, s2⟩
      exact SqL.of (s2 _ _ hq0)
    · rintro i v σ H2 hv ⟨x3, x4, x5, x6, rfl, s2⟩
      obtain ⟨x, ex, rfl⟩ := str_get hv
      obtain ⟨M, eM⟩ : ∃ M, M = mo f ks ((sqs ws f).take i) := ⟨_, rfl⟩
      rw [← eM]
      have eM2 : mo f ks ((sqs ws f).take (i + 1)) = max M (mxB f ks x ks.length) := by rw [take_next' ex, mo_snoc, eM]
      rw [eM2]
      refine at_name (σ' := [some (.ref d), some (.ref r), some (.int (M : Nat)), some (.str x), x4, x5, x6]) rfl ?_
      have hr2 := s2 _ _ (s1 _ _ hr0)
      refine ⟨(by show 1 ≤ sizeLine; decide), fun p1 p10 => ?_⟩
      have s3 := Same.new (H := H2) (o := .lst [.int 0]) p10
      have hp1 : upd H2 p1 (.lst [.int 0]) p1 = _ := upd_same
      generalize upd H2 p1 (.lst [.int 0]) = H3 at s3 hp1 ⊢
      refine ⟨_, rfl, r, _, rfl, .inl (SqL.of (s3 _ _ hr2)), _, _, rfl, rfl, p1, _, [.int 0], rfl, rfl, hp1, by omega, by rw [ll]; omega, by rw [ll, sizeLine_eq]; show 1 * _ ≤ _; omega, fun b b0 => ?_⟩
      have en : ((((ks.map V.str).length : Nat) : Int) + 1).toNat = ks.length + 1 := by rw [ll]; omega
      rw [en, flat_rep]
      have eb : List.replicate (ks.length + 1) (V.int 0) = (List.range (ks.length + 1)).map fun i => V.int (cur f ks x 1 0 i : Nat) := by
        have e : (fun i => V.int (cur f ks x 1 0 i : Nat)) = fun _ => V.int 0 := funext fun i => by rw [cur_one]; rfl
        rw [e, List.map_const', List.length_range]
      rw [eb]
      have s4 := Same.new (H := H3) (o := .lst ((List.range (ks.length + 1)).map fun i => V.int (cur f ks x 1 0 i : Nat))) b0
      have hb : upd H3 b (.lst ((List.range (ks.length + 1)).map fun i => V.int (cur f ks x 1 0 i : Nat))) b = _ := upd_same
      have b0H : H1 b = none := none_back (s2.trans s3) b0
      generalize upd H3 b (.lst ((List.range (ks.length + 1)).map fun i => V.int (cur f ks x 1 0 i : Nat))) = H4 at s4 hb ⊢
      have s14 := s2.trans (s3.trans s4)
      refine at_name (σ' := [some (.ref d), some (.ref r), some (.int (M : Nat)), some (.str x), some (.ref b), x5, x6]) rfl ?_
      refine ⟨_, rfl, r, _, rfl, .inl (SqL.of (s14 _ _ (s1 _ _ hr0))), _, _, rfl, rfl, _, _, rfl, ⟨by omega, by omega, by rw [ll]; omega, by rw [ll]; omega⟩, ?_⟩
      have en2 : ((((ks.map V.str).length : Nat) : Int) + 1 - 1).toNat = ks.length := by rw [ll]; omega
      rw [en2]
      refine for_range (lo := 1) (n := ks.length) (fun j σ H' => ∃ (x5 x6 : Option V), σ = [some (.ref d), some (.ref r), some (.int (M : Nat)), some (.str x), some (.ref b), x5, x6] ∧ L2.Same H1 H' ∧ H' b = some (.lst ((List.range (ks.length + 1)).map fun i => V.int (cur f ks x (j + 1) 0 i : Nat)))) ?_ ?_ ?_
      · exact ⟨_, _, rfl, s14, hb⟩
      · rintro j σ H5 hj ⟨x5, x6, rfl, s5, hb5⟩
        rw [show (1 : Int) + (j : Nat) = ((j + 1 : Nat) : Int) by omega]
        refine at_name (σ' := [some (.ref d), some (.ref r), some (.int (M : Nat)), some (.str x), some (.ref b), some (.int (j + 1 : Nat)), x6]) rfl ?_
        refine ⟨_, rfl, _, rfl, by omega, by omega, ?_⟩
        rw [show (((j + 1 : Nat) : Int)).toNat = j + 1 by omega]
        refine for_range (lo := 0) (n := j + 1) (fun i σ H' => ∃ (x6 : Option V), σ = [some (.ref d), some (.ref r), some (.int (M : Nat)), some (.str x), some (.ref b), some (.int (j + 1 : Nat)), x6] ∧ L2.Same H1 H' ∧ H' b = some (.lst ((List.range (ks.length + 1)).map fun m => V.int (cur f ks x (j + 1) i m : Nat)))) ?_ ?_ ?_
        · exact ⟨_, rfl, s5, hb5⟩
        · rintro m σ H6 hm ⟨x6, rfl, s6, hb6⟩
          rw [show (0 : Int) + (m : Nat) = (m : Nat) by omega]
          refine at_name (σ' := [some (.ref d), some (.ref r), some (.int (M : Nat)), some (.str x), some (.ref b), some (.int (j + 1 : Nat)), some (.int (m : Nat))]) rfl ?_
          have hr6 := s6 _ _ (s1 _ _ hr0)
          obtain ⟨y, ys, ey, elp⟩ := btw_lp (f := f) (ks := ks) (i := m) (j := j + 1) hm (by omega)
          refine ⟨_, rfl, _, rfl, _, rfl, _, rfl, _, rfl, _, rfl, r, _, rfl, SqL.of hr6, fun p3 p30 => ?_⟩
          rw [cut_mid _ m (j + 1) (by omega) (by rw [ll]; omega), ← List.map_take, ← List.map_drop, ey]
          have s7 := Same.new (H := H6) (o := .lst ((y :: ys).map V.str)) p30
          have hp3 : upd H6 p3 (.lst ((y :: ys).map V.str)) p3 = _ := upd_same
          generalize upd H6 p3 (.lst ((y :: ys).map V.str)) = H7 at s7 hp3 ⊢
          have s17 := s6.trans s7
          have ly : (y :: ys).length ≤ 100 := by rw [← ey, List.length_drop, List.length_take]; omega
          have my : ∀ z ∈ y :: ys, z ∈ ws := fun z hz => by rw [← ey] at hz; exact mk z (List.mem_of_mem_take (List.mem_of_mem_drop hz))
          refine ⟨d, p3, ws, f, y, ys, rfl, s17 _ _ (s1 _ _ hd), kw, hp3, ly, my, fun H8 s8 => ?_⟩
          rw [elp]
          have hb8 := s8 _ _ (s7 _ _ hb6)
          have s18 := s17.trans s8
          have ixb : ∀ k, k < ks.length + 1 → ((List.range (ks.length + 1)).map fun i => V.int (cur f ks x (j + 1) m i : Nat))[k]? = some (.int (cur f ks x (j + 1) m k : Nat)) := fun k hk => by rw [List.getElem?_map, List.getElem?_range hk]; rfl
          refine ⟨_, rfl, rfl, _, rfl, ite2 (fun h1 => ?_) (fun h1 => ?_)⟩
          · have h1 : btw f ks (m, j + 1) = x := V.str.inj (of_decide_eq_true h1)
            refine ⟨_, rfl, _, rfl, b, _, _, _, rfl, rfl, SqL.of hb8, atI_nat (j := j + 1) (ixb _ (by omega)), _, rfl, _, rfl, b, _, _, _, rfl, rfl, SqL.of hb8, atI_nat (j := m) (ixb _ (by omega)), _, _, rfl, rfl, _, _, rfl, ?_⟩
            refine ⟨_, rfl, _, rfl, b, _, _, j + 1, rfl, rfl, hb8, Evl.ixN_nat (by rw [List.length_map, List.length_range]; omega), ?_⟩
            refine ⟨_, rfl, Same.mut s18 b0H, ?_⟩
            rw [upd_same, set_range]
            refine congrArg (fun z => some (HO.lst z)) (List.map_congr_left fun k hk => ?_)
            by_cases c : k = j + 1
            · subst c
              rw [if_pos rfl, cur_at, cur_at, cur_lt hm, pb_succ, if_pos h1]
              congr 1
              by_cases q : (be f ks x m : Int) + 1 > (pb f ks x (j + 1) m : Nat)
              · rw [if_pos q]; omega
              · rw [if_neg q]; omega
            · rw [if_neg c, cur_succ c]
          · refine ⟨_, rfl, s18, ?_⟩
            rw [hb8]
            refine congrArg (fun z => some (HO.lst z)) (List.map_congr_left fun k hk => ?_)
            by_cases c : k = j + 1
            · subst c
              rw [cur_at, cur_at, pb_succ, if_neg fun e => h1 (decide_eq_true (congrArg V.str e))]
            · rw [cur_succ c]
        · rintro σ H6 ⟨x6, rfl, s6, hb6⟩
          refine ⟨_, _, rfl, s6, ?_⟩
          rw [hb6]
          exact congrArg (fun z => some (HO.lst z)) (List.map_congr_left fun k hk => by rw [cur_next])
      · rintro σ H5 ⟨x5, x6, rfl, s5, hb5⟩
        have eb5 : ((List.range (ks.length + 1)).map fun i => V.int (cur f ks x (ks.length + 1) 0 i : Nat)) = ((List.range (ks.length + 1)).map fun i => ((be f ks x i : Nat) : Int)).map V.int := by
          rw [List.map_map]
          exact List.map_congr_left fun i hi => by
            have := List.mem_range.mp hi
            rw [cur_end (by omega)]; rfl
        rw [eb5] at hb5
        refine ⟨_, rfl, (by show 1 ≤ sizeLine; decide), fun p4 p40 => ?_⟩
        have s6 := Same.new (H := H5) (o := .lst [.int (M : Nat)]) p40
        have hp4 : upd H5 p4 (.lst [.int (M : Nat)]) p4 = _ := upd_same
        generalize upd H5 p4 (.lst [.int (M : Nat)]) = H6 at s6 hp4 ⊢
        refine ⟨_, rfl, p4, b, _, _, rfl, rfl, hp4, s6 _ _ hb5, by rw [List.length_map, List.length_map, List.length_range, sizeLine_eq]; show 1 + _ ≤ _; omega, fun p5 p50 => ?_⟩
        have e5 : [V.int (M : Nat)] ++ ((List.range (ks.length + 1)).map fun i => ((be f ks x i : Nat) : Int)).map V.int = (((M : Nat) : Int) :: (List.range (ks.length + 1)).map fun i => ((be f ks x i : Nat) : Int)).map V.int := rfl
        rw [e5]
        have s7 := Same.new (H := H6) (o := .lst ((((M : Nat) : Int) :: (List.range (ks.length + 1)).map fun i => ((be f ks x i : Nat) : Int)).map V.int)) p50
        have hp5 : upd H6 p5 (.lst ((((M : Nat) : Int) :: (List.range (ks.length + 1)).map fun i => ((be f ks x i : Nat) : Int)).map V.int)) p5 = _ := upd_same
        generalize upd H6 p5 (.lst ((((M : Nat) : Int) :: (List.range (ks.length + 1)).map fun i => ((be f ks x i : Nat) : Int)).map V.int)) = H7 at s7 hp5 ⊢
        refine ⟨p5, _, rfl, SqL.of hp5, Nat.succ_pos _, fun m hm hbd => ?_⟩
        have em : m = ((max M (mxB f ks x ks.length) : Nat) : Int) := by
          have b1 := hbd _ List.mem_cons_self
          have b2 : ∀ j, j ≤ ks.length → ((be f ks x j : Nat) : Int) ≤ m := fun j hj => hbd _ (List.mem_cons_of_mem _ (List.mem_map.mpr ⟨j, List.mem_range.mpr (by omega), rfl⟩))
          obtain ⟨i0, hi0, e0⟩ := mxB_at (f := f) (ks := ks) (x := x) ks.length
          have b3 := b2 i0 hi0
          rcases List.mem_cons.mp hm with e | e
          · omega
          · obtain ⟨j, hj, e⟩ := List.mem_map.mp e
            have := mxB_ge (f := f) (ks := ks) (x := x) (n := ks.length) (j := j) (by have := List.mem_range.mp hj; omega)
            omega
        rw [em]
        exact ⟨_, _, _, _, rfl, s5.trans (s6.trans s7)⟩
    · rintro σ H2 ⟨x3, x4, x5, x6, rfl, s2⟩
      rw [List.length_map, List.take_length]
      exact ⟨_, rfl, k H2 (s1.trans s2)⟩
abbrev nRwL : List Str := ["_law_kinds", "_law_number", "_law_found", "_law_turn", "_law_longer", "_law_row", "_law_kind"]
theorem scRwL : FnScope nRwL ["_law_kinds", "_law_number"] (defScope sRwL) := ⟨rfl, rfl, rfl, by decide +kernel, rfl, by decide +kernel, by decide +kernel⟩
theorem ok_rwL {g : Addr} {fd : FuncData} (F : Fun K "_law_rows" "_law_rows" sRwL g fd) (B0 : Blt mg) : FnOk P w K mg base CX0 1 g fd ["_law_kinds", "_law_number"] spRowsL := by
  refine F.ok scRwL (fun vs H Q E h => ?_) (fun cdv A outer s H vs Q E hr h => ?_)
  · obtain ⟨l, ws, n, rfl, _⟩ := h
    rfl
  · obtain ⟨l, ws, n, rfl, hl, w0, w4, n12, few, k⟩ := h
    have nd := scRwL.nd
    refine ⟨_, pss_cons (ps_set (i := 2) nd rfl (Or.inl rfl) (pe_lst (pa_cons (pe_lst (pa_nil)) (pa_nil))))
      (pss_cons (ps_for PassesOwn.never rfl (pi_range1 rfl B0.range (pa_cons (pv 1) (pa_nil))) (pg_name (i := 3) nd rfl (Or.inl rfl)) (pss_cons (ps_set (i := 4) nd rfl (Or.inl rfl) (pe_lst (pa_nil)))
      (pss_cons (ps_for PassesOwn.never rfl (pi_list (pv 2)) (pg_name (i := 5) nd rfl (Or.inr rfl)) (pss_one (ps_set (i := 4) nd rfl (Or.inl rfl) (pe_op op_cat (pv 4) (pe_lc (own := [("_law_kind", 6)]) (g := gName 6) (tt := tYes) (te := tOp rCat (tVar 5) (tLst (tCons (tVar 6) tNil))) rfl nd (pi_list (pv 0)) (blkOk_by (own := [("_law_kind", 6)]) (N := nRwL) (sc := defScope sRwL) (by decide +kernel)) (fun _ _ _ _ _ => pg_name (i := 6) nd rfl (Or.inl rfl)) (fun _ _ _ _ _ => pts_nil) (fun _ _ _ _ _ => pe_op op_cat (pv 5) (pe_lst (pa_cons (pv 6) (pa_nil)))))))))
      (pss_one (ps_set (i := 2) nd rfl (Or.inl rfl) (pv 4))))))
      (pss_one (ps_ret (pv 2)))), ?_⟩
    have pow : ∀ i, i ≤ n → ws.length ^ i ≤ 4096 := fun i hi => Nat.le_trans (Nat.pow_le_pow_right w0 hi) few
    refine ⟨(by show 0 ≤ sizeLine; decide), fun p0 p00 => ⟨(by show 1 ≤ sizeLine; decide), fun r0 r00 => ?_⟩⟩
    have s1 := Same.new (H := H) (o := .lst []) p00
    have hp0 : upd H p0 (.lst []) p0 = _ := upd_same
    generalize upd H p0 (.lst []) = H1 at s1 hp0 r00 ⊢
    have s2 := Same.new (H := H1) (o := .lst [.ref p0]) r00
    have hr0 : upd H1 r0 (.lst [.ref p0]) r0 = _ := upd_same
    generalize upd H1 r0 (.lst [.ref p0]) = H2 at s2 hr0 ⊢
    refine at_name (σ' := [some (.ref l), some (.int n), some (.ref r0), none, none, none, none]) rfl ?_
    refine ⟨_, rfl, _, rfl, by omega, by omega, ?_⟩
    rw [show ((n : Nat) : Int).toNat = n by omega]
    refine for_range (lo := 0) (n := n) (fun i σ H' => ∃ (r : Addr) (x3 x4 x5 : Option V) (zs : List (Addr × List Str)), σ = [some (.ref l), some (.int n), some (.ref r), x3, x4, x5, none] ∧ L2.Same H H' ∧ H r = none ∧ RwsAt H H' r zs ∧ zs.map (·.2) = alr ws i) ?_ ?_ ?_
    · exact ⟨r0, _, _, _, [(p0, [])], rfl, s1.trans s2, none_back s1 r00, ⟨hr0, fun z hz => by rw [List.mem_singleton.mp hz]; exact s2 _ _ hp0, fun z hz => by rw [List.mem_singleton.mp hz]; exact p00⟩, rfl⟩
    · rintro i σ H3 hi ⟨r, x3, x4, x5, zs, rfl, s3, r0', rw3, ez⟩
      have pwi := pow i (by omega)
      have lz : zs.length ≤ 4096 := by
        have := congrArg List.length ez
        rw [List.length_map, alr_len] at this
        omega
      refine at_name (σ' := [some (.ref l), some (.int n), some (.ref r), some (.int (0 + (i : Nat))), x4, x5, none]) rfl ?_
      refine ⟨(by show 0 ≤ sizeLine; decide), fun q0 q00 => ?_⟩
      have s4 := Same.new (H := H3) (o := .lst []) q00
      have hq0 : upd H3 q0 (.lst []) q0 = _ := upd_same
      generalize upd H3 q0 (.lst []) = H4 at s4 hq0 ⊢
      refine at_name (σ' := [some (.ref l), some (.int n), some (.ref r), some (.int (0 + (i : Nat))), some (.ref q0), x5, none]) rfl ?_
      refine ⟨_, rfl, r, rfl, ⟨_, SqL.of (s4 _ _ rw3.at')⟩, ?_⟩
      refine for_list (K := K) (a := r) (xs := zs.map fun z => V.ref z.1) (fun m σ H' => ∃ (q : Addr) (x5 : Option V) (ys : List (Addr × List Str)), σ = [some (.ref l), some (.int n), some (.ref r), some (.int (0 + (i : Nat))), some (.ref q), x5, none] ∧ L2.Same H3 H' ∧ H q = none ∧ RwsAt H H' q ys ∧ ys.map (·.2) = lgr ws ((zs.take m).map (·.2))) ?_ ?_ ?_ ?_
      · exact ⟨q0, _, [], rfl, s4, none_back s3 q00, ⟨hq0, fun z h => (by cases h), fun z h => (by cases h)⟩, rfl⟩
      · rintro m σ H' hm ⟨q, x5, ys, rfl, s5, _⟩
        exact SqL.of (s5 _ _ rw3.at')
      · rintro m v σ H5 hv ⟨q, x5, ys, rfl, s5, q0', rq, ey⟩
        rw [List.getElem?_map] at hv
        cases ezm : zs[m]? with
        | none => rw [ezm] at hv; cases hv
        | some z =>
          rw [ezm] at hv
          obtain ⟨za, zr⟩ := z
          rw [← Option.some.inj hv]
          refine at_name (σ' := [some (.ref l), some (.int n), some (.ref r), some (.int (0 + (i : Nat))), some (.ref q), some (.ref za), none]) rfl ?_
          have hl5 := s5 _ _ (s3 _ _ hl)
          have hz5 := s5 _ _ (rw3.row (za, zr) (List.mem_of_getElem? ezm))
          have lzr : zr.length = i := by
            have : zr ∈ alr ws i := by rw [← ez]; exact List.mem_map.mpr ⟨_, List.mem_of_getElem? ezm, rfl⟩
            exact (alr_mem.mp this).1
          have lys : ys.length ≤ 16384 := by
            have := congrArg List.length ey
            unfold lgr at this
            rw [List.length_map, flat_cnt _ ws.length _ fun x _ => List.length_map _, List.length_map, List.length_take] at this
            have : min m zs.length * ws.length ≤ 4096 * 4 := Nat.mul_le_mul (by omega) (by omega)
            omega
          refine ⟨_, rfl, _, rfl, l, rfl, ⟨_, SqL.of hl5⟩, fun D hD => ?_⟩
          have hD0 := none_back (s3.trans s5) hD
          refine lcQ (walk_LI (K := K) (a := l) ws V.str) rel_same (fun _ => true) (fun _ _ => True) (fun H' k v => ∃ a, v = .ref a ∧ a ≠ D ∧ H' a = some (.lst ((zr ++ [k]).map V.str)) ∧ H a = none) (by omega) hD (fun s e => s _ _ e)
            (fun s ⟨a, e1, e2, e3, e4⟩ => ⟨a, e1, e2, s _ _ e3, e4⟩) (fun ⟨a, e1, e2, e3, e4⟩ => ⟨a, e1, e2, (upd_ne e2).trans e3, e4⟩) (fun h => h) trivial (fun H' s => SqL.of (s _ _ hl5)) (fun j x H6 Y N ej s6 _ hDo kY kN => ?_) (fun L H6 s6 _ eL hD6 fz => ?_)
          · refine at_name (σ' := [some (.ref l), some (.int n), some (.ref r), some (.int (0 + (i : Nat))), some (.ref q), some (.ref za), some (.str x)]) rfl ⟨rfl, yes_if ?_⟩
            refine ⟨_, rfl, _, rfl, (by show 1 ≤ sizeLine; decide), fun p1 p10 => ?_⟩
            have t1 := Same.new (H := H6) (o := .lst [.str x]) p10
            have hp1 : upd H6 p1 (.lst [.str x]) p1 = _ := upd_same
            generalize upd H6 p1 (.lst [.str x]) = G1 at t1 hp1 ⊢
            refine ⟨za, p1, zr.map V.str, [.str x], rfl, rfl, t1 _ _ (s6 _ _ hz5), hp1, by rw [List.length_map, lzr, sizeLine_eq]; show _ + 1 ≤ _; omega, fun p2 p20 => ?_⟩
            have t2 := Same.new (H := G1) (o := .lst (zr.map V.str ++ [.str x])) p20
            have hp2 : upd G1 p2 (.lst (zr.map V.str ++ [.str x])) p2 = _ := upd_same
            generalize upd G1 p2 (.lst (zr.map V.str ++ [.str x])) = G2 at t2 hp2 ⊢
            obtain ⟨o, ho⟩ := hDo
            have n2 : p2 ≠ D := (ne_of_none (t1 _ _ ho) p20).symm
            have p2H : H p2 = none := none_back (s3.trans (s5.trans (s6.trans t1))) p20
            have e2 : zr.map V.str ++ [V.str x] = (zr ++ [x]).map V.str := by rw [List.map_append]; rfl
            rw [e2] at hp2
            exact kY rfl _ _ (t1.trans t2) trivial ⟨p2, rfl, n2, hp2, p2H⟩
          · obtain ⟨ys2, e1, e2, e3⟩ := fz_out fz
            rw [eL, List.filter_eq_self.mpr fun _ _ => rfl] at e2
            rw [e1] at hD6
            have ly2 : ys2.length ≤ 4 := by
              have := congrArg List.length e2
              rw [List.length_map, List.length_map] at this
              omega
            have rq6 := rq.mono s6
            refine ⟨q, D, _, _, rfl, rfl, rq6.at', hD6, by rw [List.length_map, List.length_map, sizeLine_eq]; omega, fun p3 p30 => ?_⟩
            have s7 := Same.new (H := H6) (o := .lst (ys.map (fun z => V.ref z.1) ++ ys2.map fun z => V.ref z.1)) p30
            have hp3 : upd H6 p3 (.lst (ys.map (fun z => V.ref z.1) ++ ys2.map fun z => V.ref z.1)) p3 = _ := upd_same
            generalize upd H6 p3 (.lst (ys.map (fun z => V.ref z.1) ++ ys2.map fun z => V.ref z.1)) = H7 at s7 hp3 ⊢
            refine at_name (σ' := [some (.ref l), some (.int n), some (.ref r), some (.int (0 + (i : Nat))), some (.ref p3), some (.ref za), none]) rfl ?_
            refine ⟨p3, _, ys ++ ys2, rfl, s5.trans (s6.trans s7), none_back (s3.trans (s5.trans s6)) p30, ⟨by rw [hp3, List.map_append], fun z hz => ?_, fun z hz => ?_⟩, ?_⟩
            · rcases List.mem_append.mp hz with hz | hz
              · exact s7 _ _ (rq6.row z hz)
              · exact s7 _ _ (e3 z hz).2.1
            · rcases List.mem_append.mp hz with hz | hz
              · exact rq6.new z hz
              · exact (e3 z hz).2.2
            · rw [List.map_append, ey, e2, take_next' ezm, List.map_append]
              unfold lgr
              rw [List.flatMap_append]
              show _ = _ ++ ([zr].flatMap _)
              rw [List.flatMap_cons, List.flatMap_nil, List.append_nil]
      · rintro σ H5 ⟨q, x5, ys, rfl, s5, q0', rq, ey⟩
        refine ⟨_, rfl, at_name (σ' := [some (.ref l), some (.int n), some (.ref q), some (.int (0 + (i : Nat))), some (.ref q), x5, none]) rfl ?_⟩
        rw [List.length_map, List.take_length, ez] at ey
        exact ⟨q, _, _, _, ys, rfl, s3.trans s5, q0', rq, ey⟩
    · rintro σ H3 ⟨r, x3, x4, x5, zs, rfl, s3, r0', rw3, ez⟩
      exact ⟨_, rfl, k r zs H3 s3 r0' rw3 ez⟩
end
end KT
set_option Elab.async false
set_option linter.all false
set_option maxRecDepth 100000
set_option maxHeartbeats 2000000
set_option pp.maxSteps 900
namespace KT
open PySem L2 PyProof.Rows DTp TxS
open LamX MnK
theorem eqvAll_strs : ∀ xs ys : List Str, PyData.eqvAll (xs.map PyData.str) (ys.map PyData.str) = decide (xs = ys)
  | [], [] => by simp [PyData.eqvAll]
  | [], y :: ys => by simp [PyData.eqvAll]
  | x :: xs, [] => by simp [PyData.eqvAll]
  | x :: xs, y :: ys => by
    rw [List.map_cons, List.map_cons, PyData.eqvAll, eqvAll_strs xs ys, PyData.eqv]
    by_cases h : x = y
    · subst h; simp
    · rw [beq_eq_false_iff_ne.mpr h, Bool.false_and, decide_eq_false]
      intro e
      exact h (List.cons.inj e).1
theorem eqv_strs (xs ys : List Str) : PyData.eqv (.list (xs.map PyData.str)) (.list (ys.map PyData.str)) = decide (xs = ys) := by
  rw [PyData.eqv]
  exact eqvAll_strs xs ys
theorem hu65' {k : Nat} {A : Around} (h : Room k A) : A.units + 65 < cLine := by have := h.un; omega
def rowD (r : List Str) : PyData := .list (r.map PyData.str)
theorem lay_rows : ∀ L : List (List Str), (∀ r ∈ L, ∀ x ∈ r, Wd x) → PyData.canLayAll0 (L.map rowD) = true
  | [], _ => rfl
  | r :: L, h => by
    simp only [List.map_cons, PyData.canLayAll0, rowD, PyData.canLay0, Bool.and_eq_true]
    exact ⟨lay_strs r (h r List.mem_cons_self), lay_rows L fun y hy => h y (List.mem_cons_of_mem _ hy)⟩
theorem depth_rows : ∀ L : List (List Str), PyData.depthAll (L.map rowD) ≤ 4
  | [] => by simp [PyData.depthAll]
  | z :: zs => by
    have h1 := depth_rows zs
    have h2 := depth_strs z
    simp only [List.map_cons, rowD, PyData.depthAll, PyData.depth] at h1 ⊢
    omega
theorem shaped_rows (L : List (List Str)) (h : ∀ r ∈ L, ∀ x ∈ r, Wd x) : SeqAt.shaped (.list (L.map rowD)) = true := by
  have h1 := depth_rows L
  have h2 : PyData.depth (.list (L.map rowD)) ≤ 64 := by
    simp only [PyData.depth]
    omega
  show (PyData.canLay0 (.list (L.map rowD)) && decide (PyData.depth (.list (L.map rowD)) ≤ 64)) = true
  rw [Bool.and_eq_true]
  exact ⟨by simp only [PyData.canLay0]; exact lay_rows L h, decide_eq_true h2⟩
theorem dpAll_rows {K : PySem.W.Frag} {H : Hp} : ∀ {L : List (Addr × List Str)}, (∀ z ∈ L, H z.1 = some (.lst (z.2.map V.str))) → DpAll K H (L.map fun z => V.ref z.1) ((L.map (·.2)).map rowD)
  | [], _ => .nil
  | z :: L, h => .cons (dp_strs (SqL.of (h z List.mem_cons_self))) (dpAll_rows fun y hy => h y (List.mem_cons_of_mem _ hy))
theorem any_rows (L : List (List Str)) (r : List Str) : ((L.map rowD).any fun z => PyData.eqv z (rowD r)) = decide (r ∈ L) := by
  rw [Bool.eq_iff_iff, List.any_eq_true, decide_eq_true_eq]
  constructor
  · rintro ⟨z, hz, e⟩
    obtain ⟨y, hy, rfl⟩ := List.mem_map.mp hz
    have e : PyData.eqv (.list (y.map PyData.str)) (.list (r.map PyData.str)) = true := e
    rw [eqv_strs] at e
    rw [← of_decide_eq_true e]; exact hy
  · intro h
    refine ⟨rowD r, List.mem_map.mpr ⟨r, h, rfl⟩, ?_⟩
    show PyData.eqv (.list (r.map PyData.str)) (.list (r.map PyData.str)) = true
    rw [eqv_strs, decide_eq_true rfl]
theorem first_at {α : Type} [DecidableEq α] : ∀ {l : List α} {x : α}, x ∈ l → ∃ j : Nat, l[j]? = some x ∧ ∀ m : Nat, m < j → l[m]? ≠ some x
  | y :: l, x, h => by
    by_cases c : y = x
    · exact ⟨0, by rw [c]; rfl, fun m hm => absurd hm (Nat.not_lt_zero _)⟩
    · rcases List.mem_cons.mp h with rfl | h
      · exact absurd rfl c
      · obtain ⟨j, hj, hno⟩ := first_at h
        refine ⟨j + 1, hj, fun m hm => ?_⟩
        cases m with
        | zero => exact fun e => c (Option.some.inj e)
        | succ m => exact hno m (by omega)
theorem idx_rows {K : PySem.W.Frag} {H0 H' : Hp} {r q : Addr} {zs : List (Addr × List Str)} {row : List Str} {j : Nat} {Q : VK} (rw' : RwsAt H0 H' r zs) (hq : H' q = some (.lst (row.map V.str))) (wd : ∀ z ∈ zs, ∀ x ∈ z.2, Wd x) (hj : (zs.map (·.2))[j]? = some row) (hno : ∀ m, m < j → (zs.map (·.2))[m]? ≠ some row)
    (k : Q (.int (j : Nat)) H') : rIndexD K (.ref r) [.ref q] H' Q := by
  have mr : row ∈ zs.map (·.2) := List.mem_of_getElem? hj
  obtain ⟨z0, hz0, e0⟩ := List.mem_map.mp mr
  refine ⟨r, .ref q, rowD row, (zs.map (·.2)).map rowD, j, rowD row, rfl, rfl, .lst (SqL.of rw'.at') (dpAll_rows rw'.row), dp_strs (SqL.of hq), shaped_rows _ (fun y hy => ?_), shaped_strs _ (fun x hx => wd z0 hz0 x (by rw [e0]; exact hx)), ?_, ?_, fun m z' hm hz' => ?_, k⟩
  · obtain ⟨z, hz, rfl⟩ := List.mem_map.mp hy
    exact wd z hz
  · rw [List.getElem?_map, hj]; rfl
  · show PyData.eqv (.list (row.map PyData.str)) (.list (row.map PyData.str)) = true
    rw [eqv_strs, decide_eq_true rfl]
  · rw [List.getElem?_map] at hz'
    cases e : (zs.map (·.2))[m]? with
    | none => rw [e] at hz'; cases hz'
    | some r' =>
      rw [e] at hz'
      rw [← Option.some.inj hz']
      show PyData.eqv (.list (r'.map PyData.str)) (.list (row.map PyData.str)) = false
      rw [eqv_strs, decide_eq_false fun h => hno m hm (by rw [e, h])]
theorem bm_idx {σ : L2.St} {K : PySem.W.Frag} {H : Hp} {r q : V} {Q : VK} (h : rIndexD K r [q] H Q) : (fun x H1 => tNil σ H1 fun xs H2 => (fun xs H2 => rIndexD K r xs H2 Q) (x :: xs) H2) q H := h
theorem alike_strs {H : Hp} {n : Nat} {a b : Addr} {row : List Str} (ha : H a = some (.lst (row.map V.str))) (hb : H b = some (.lst (row.map V.str))) (l : row.length ≤ 100) : Alike (n + 2) H (.ref a) (.ref b) := by
  refine .inr (.inl ⟨a, b, _, _, rfl, rfl, ha, hb, by rw [List.length_map]; exact l, ?_⟩)
  induction row with
  | nil => exact .nil
  | cons x row ih => exact .cons (.inl (.inl ⟨x, rfl, rfl⟩)) (by
      have : ∀ L : List Str, Paired (Alike (n + 1) H) (L.map V.str) (L.map V.str) := fun L => by
        induction L with
        | nil => exact .nil
        | cons y L ih => exact .cons (.inl (.inl ⟨y, rfl, rfl⟩)) ih
      exact this row)
/-- all but p and the tables stay -/
def ExtB (p : Addr) (H H' : Hp) : Prop := ∀ b o, b ≠ p → H b = some o → (∀ ps, o ≠ .tbl ps) → H' b = some o
theorem ExtB.refl (p : Addr) (H : Hp) : ExtB p H H := fun _ _ _ e _ => e
theorem ExtB.trans {p : Addr} {H H1 H2 : Hp} (a : ExtB p H H1) (b : ExtB p H1 H2) : ExtB p H H2 := fun c o n e t => b c o n (a c o n e t) t
theorem extB_ext {p : Addr} {H H' : Hp} (e : ExtN H H') : ExtB p H H' := fun c o _ h t => e c o h t
theorem extB_but {p : Addr} {H H' : Hp} (e : But p H H') : ExtB p H H' := fun c o n h _ => e c o n h
theorem extB_upd {p : Addr} {H0 H : Hp} {q : Addr} {o : HO} (e : ExtB p H0 H) (h : Fre H0 q) : ExtB p H0 (upd H q o) := fun b u nb hb n => by
  by_cases c : b = q
  · subst c
    obtain ⟨ps, hp⟩ := h u hb
    exact absurd hp (n ps)
  · rw [upd_ne c]
    exact e b u nb hb n
theorem PurseAt.ext {H H' : Hp} {p : Addr} {B : Int} (e : ExtN H H') (h : PurseAt H p B) : PurseAt H' p B := let ⟨a, b, c, d, q, r⟩ := h; ⟨a, b, c, d, e _ _ q (fun ps z => by cases z), r⟩
theorem PurseAt.lst {H : Hp} {p : Addr} {B : Int} (h : PurseAt H p B) : ∃ xs, H p = some (.lst xs) := let ⟨a, b, c, d, q, r⟩ := h; ⟨_, q⟩
def spNR (K : PySem.W.Frag) : Sp := fun vs H Q _ => ∃ (p d : Addr) (ws : List Str) (f : Str → Str → Str) (n : Nat) (B : Int), vs = [.ref p, .ref d, .int n] ∧ PurseAt H p B ∧ 0 ≤ B ∧ B ≤ 800000 ∧ H d = some (.dT (tabW ws f)) ∧ KW ws f ∧ 1 ≤ n ∧ n ≤ 12 ∧ ws.length ^ n ≤ 256 ∧ Tabs (tbK K) H ∧
  ∀ (m : Nat) (H' : Hp), Lst f ws n m → ExtB p H H' → PurseAt H' p (B + 1100) → Tabs (tbK K) H' → Q (.int m) H'
structure NrC (P : Program) (w : World) (K : PySem.W.Frag) (mg : Str → Option Value) (base : Heap) (C : Addr) : Prop where
  mkd : Cee P w K mg base 6 "_law_made_kinds" ["_law_table_here"] (spMadeKinds C)
  kof : Cee P w K mg base 1 "_law_kinds_of" ["_law_table_here"] spKindsOf
  rws : Cee P w K mg base 1 "_law_rows" ["_law_kinds", "_law_number"] spRowsL
  mos : Cee P w K mg base 3 "_law_most" ["_law_table_here", "_law_row"] spMostL
  sc : Cee P w K mg base 10 "scarce_row" ["kinds", "number"] (spScarce K C)
  sur : Cee P w K mg base 11 "sure_stretches" ["kinds", "number"] (spSure K C)
  isc : Cee P w K mg base 12 "is_scarce_row" ["kinds", "number", "value"] (spIsSc K C)
  exa : Cee P w K mg base 7 "_law_exact" ["_law_mine", "_law_theirs"] (spExact 6)
  shu : Cee P w K mg base 3 "_law_shuffled" ["_law_purse_here", "_law_some"] spShuf
section
variable {P : Program} {w : World} {K : PySem.W.Frag} {mg : Str → Option Value} {base : Heap} {C S G : Addr}
abbrev nNR : List Str := ["_law_purse_here", "_law_table_here", "_law_number", "_law_kinds", "_law_rows_here", "_law_numbers", "_law_least", "_law_told", "_law_at", "_law_handed", "_law_row"]
theorem scNR : FnScope nNR ["_law_purse_here", "_law_table_here", "_law_number"] (defScope sNR) := ⟨rfl, rfl, rfl, by decide +kernel, rfl, by decide +kernel, by decide +kernel⟩
theorem ok_nR {g : Addr} {fd : FuncData} (F : Fun K "_law_number_right" "_law_number_right" sNR g fd) (B0 : Blt mg) (Z : Blp mg) (M : NrC P w K mg base C) : FnOk P w K mg base CX0 13 g fd ["_law_purse_here", "_law_table_here", "_law_number"] (spNR K) := by
  refine F.ok scNR (fun vs H Q E h => ?_) (fun cdv A outer s H vs Q E hr h => ?_)
  · obtain ⟨p, d, ws, f, n, B, rfl, _⟩ := h
    rfl
  · obtain ⟨p, d, ws, f, n, B, rfl, hP, b0, b1, hd, kw, n1, n12, few, hT, k⟩ := h
    have nd := scNR.nd
    refine ⟨_, pss_cons (ps_par (i := 3) (j := 4) rfl nd rfl rfl (by decide) rfl rfl (pa_cons (pe_c M.mkd hr rfl (pa_cons (pv 1) (pa_nil))) (pa_cons (pe_c M.rws hr rfl (pa_cons (pe_c M.kof hr rfl (pa_cons (pv 1) (pa_nil))) (pa_cons (pv 2) (pa_nil)))) (pa_nil))) (by rfl))
      (pss_cons (ps_setLc (i := 5) (own := [("_law_row", 10)]) (g := gName 10) (tt := tYes) (te := tCall spMostL [] E0 (tCons (tVar 1) (tCons (tVar 10) tNil))) rfl nd rfl rfl (sw_true rfl rfl rfl (by decide +kernel)) (pi_list (pv 4)) (blkOk_by (own := [("_law_row", 10)]) (N := nNR) (sc := defScope sNR) (by decide +kernel)) (fun _ _ _ _ _ => pg_name (i := 10) nd rfl (Or.inl rfl)) (fun _ _ _ _ _ => pts_nil) (fun _ _ _ _ _ => pe_c M.mos hr rfl (pa_cons (pv 1) (pa_cons (pv 10) (pa_nil)))))
      (pss_cons (ps_par (i := 6) (j := 7) rfl nd rfl rfl (by decide) rfl rfl (pa_cons (pe_callB (cr_min rfl) (by rfl) B0.min (by decide +kernel) (pa_cons (pv 5) (pa_nil))) (pa_cons (pe_c M.sc hr rfl (pa_cons (pv 3) (pa_cons (pv 2) (pa_nil)))) (pa_nil))) (by rfl))
      (pss_cons (ps_if (pt_cut <| PW.pt (pw_or (pt_not (pt_val (pe_c M.exa hr rfl (pa_cons (pe_c M.sur hr rfl (pa_cons (pv 3) (pa_cons (pv 2) (pa_nil)))) (pa_cons (pv 6) (pa_nil)))))) (pw_or (pt_cmpR (op_notInD (hu65' hr)) (pv 7) (pv 4) (by rfl)) (pw_or1 (pt_cmpR op_ne (pe_ix ix_list (pv 5) (pe_bm PySem.F.plainAttrs_list PySem.F.slot_list_index PySem.F.type_list_index (mt_indexD (hu65' hr)) (pv 4) (pa_cons (pv 7) pa_nil)) (fun _ _ => rfl)) (pv 6) (nomark _)))))) (pss_one (ps_ret (pe_non))) pss_nil)
      (pss_cons (ps_for PassesOwn.never rfl (pi_list (pe_op op_cat (pe_slice sl_list (pe_c M.shu hr rfl (pa_cons (pv 0) (pa_cons (pe_listRg rfl (by rfl) Z.list (prg_1 (by rfl) B0.range (pe_callB call_len_seq (by rfl) B0.len PySem.boot_len (pa_cons (pv 4) (pa_nil))))) (pa_nil)))) (po_none) (po_some (pe_int))) (pe_lst (pa_cons (pe_bm PySem.F.plainAttrs_list PySem.F.slot_list_index PySem.F.type_list_index (mt_indexD (hu65' hr)) (pv 4) (pa_cons (pv 7) pa_nil)) (pa_nil))))) (pg_name (i := 8) nd rfl (Or.inl rfl)) (pss_cons (ps_set (i := 9) nd rfl (Or.inl rfl) (pe_callTy call_list_of (by rfl) Z.list (by decide +kernel) (pa_cons (pe_ix ix_list (pv 4) (pv 8) (fun _ _ => rfl)) (pa_nil))))
      (pss_one (ps_if (pt_not (pt_val (pe_c M.exa hr rfl (pa_cons (pe_lst (pa_cons (pe_c M.isc hr rfl (pa_cons (pv 3) (pa_cons (pv 2) (pa_cons (pv 9) (pa_nil))))) (pa_cons (pv 9) (pa_nil)))) (pa_cons (pe_lst (pa_cons (pe_cmpR op_eq (pe_ix ix_list (pv 5) (pv 8) (fun _ _ => rfl)) (pv 6) (nomark _)) (pa_cons (pe_ix ix_list (pv 4) (pv 8) (fun _ _ => rfl)) (pa_nil)))) (pa_nil)))))) (pss_one (ps_ret (pe_non))) pss_nil))))
      (pss_cons (ps_expr (pe_bm PySem.F.plainAttrs_list PySem.F.slot_list_append PySem.F.type_list_append mt_append (pv 7) (pa_cons (pe_str) (pa_nil))))
      (pss_one (ps_ret (pe_ifExp (pt_cmpR (op_inD (hu65' hr)) (pe_c M.sc hr rfl (pa_cons (pv 3) (pa_cons (pv 2) (pa_nil)))) (pv 4) (by rfl)) (pv 6) pe_non)))))))), ?_⟩
    obtain ⟨px, hpx⟩ := hP.lst
    have w0 := kw.pos
    have w4 := kw.few
    have few' : ws.length ^ n ≤ 4096 := by omega
    refine ⟨_, rfl, d, ws, f, rfl, hd, kw, fun x H1 s1 kn => ?_⟩
    refine ⟨_, rfl, d, ws, f, rfl, s1 _ _ hd, kw, fun kl H2 s2 kl0 hkl => ?_⟩
    refine ⟨_, rfl, kl, ws, n, rfl, hkl, w0, w4, n12, few', fun r zs H3 s3 r0 rw3 ez => ?_⟩
    refine ⟨_, _, rfl, ?_⟩
    have s03 := s1.trans (s2.trans s3)
    have lzs : zs.length = ws.length ^ n := by
      have := congrArg List.length ez
      rw [List.length_map, alr_len] at this
      exact this
    have inz : ∀ z ∈ zs, z.2 ∈ alr ws n := fun z hz => by rw [← ez]; exact List.mem_map.mpr ⟨z, hz, rfl⟩
    refine ⟨_, rfl, r, rfl, ⟨_, SqL.of rw3.at'⟩, fun D hD => ?_⟩
    refine lcV (walk_LI (K := K) (a := r) zs fun z => V.ref z.1) (fun _ => true) (fun z => V.int (mo f z.2 (sqs ws f) : Nat)) (by omega) hD (fun H' s => SqL.of (s _ _ rw3.at')) (fun i z HA Y N ex sA kY kN => ?_) (fun H4 s4 hD4 => ?_)
    · refine at_name (σ' := [some (.ref p), some (.ref d), some (.int n), some (.ref x), some (.ref r), none, none, none, none, none, some (.ref z.1)]) rfl ⟨rfl, yes_if ?_⟩
      obtain ⟨lz, mk⟩ := alr_mem.mp (inz z (List.mem_of_getElem? ex))
      exact ⟨_, rfl, _, rfl, d, z.1, ws, f, z.2, rfl, sA _ _ (s03 _ _ hd), kw, sA _ _ (rw3.row z (List.mem_of_getElem? ex)), by omega, mk, fun H' s => kY rfl _ s⟩
    rw [List.filter_eq_self.mpr fun _ _ => rfl] at hD4
    refine at_name (σ' := [some (.ref p), some (.ref d), some (.int n), some (.ref x), some (.ref r), some (.ref D), none, none, none, none, none]) rfl ?_
    have s04 := s03.trans s4
    have hpx4 := s04 _ _ hpx
    have npD : D ≠ p := fun e => by rw [e, s03 _ _ hpx] at hD; cases hD
    -- what stays while p and the tables change
    have KD : ∀ H', ExtB p H4 H' → KdAt C H' x ws f := fun H' e => by
      obtain ⟨dx, dd, l, ki, a1, a2, a3, a4⟩ := kn
      have np : ∀ {b : Addr}, H b = none → b ≠ p := fun h z => by rw [z, hpx] at h; cases h
      have st : ∀ b o, H b = none → H1 b = some o → (∀ ps, o ≠ .tbl ps) → H' b = some o := fun b o h0 h1 t => e b o (np h0) (s4 _ _ (s3 _ _ (s2 _ _ h1))) t
      exact ⟨dx, dd, l, st _ _ a1 ki.ob (fun ps z => by cases z), st _ _ a3 ki.dc (fun ps z => by cases z), st _ _ a4 ki.ls (fun ps z => by cases z), kw⟩
    have RW : ∀ H', ExtB p H4 H' → RwsAt H H' r zs := fun H' e => by
      have np : ∀ {b : Addr}, H b = none → b ≠ p := fun h z => by rw [z, hpx] at h; cases h
      exact ⟨e _ _ (np (none_back (s1.trans s2) r0)) (s4 _ _ rw3.at') (fun ps z => by cases z), fun z hz => e _ _ (np (none_back (s1.trans s2) (rw3.new z hz))) (s4 _ _ (rw3.row z hz)) (fun ps z => by cases z), fun z hz => none_back (s1.trans s2) (rw3.new z hz)⟩
    have NQ : ∀ H', ExtB p H4 H' → H' D = some (.lst (zs.map fun z => V.int (mo f z.2 (sqs ws f) : Nat))) := fun H' e => e _ _ npD hD4 (fun ps z => by cases z)
    have hT4 := hT.ext s04
    have e44 := ExtB.refl p H4
    have en : (zs.map fun z => V.int (mo f z.2 (sqs ws f) : Nat)) = (zs.map fun z => ((mo f z.2 (sqs ws f) : Nat) : Int)).map V.int := by rw [List.map_map]; rfl
    refine ⟨_, rfl, D, zs.map fun z => ((mo f z.2 (sqs ws f) : Nat) : Int), rfl, SqL.of (by rw [← en]; exact hD4), ?_, fun m hm hb => ?_⟩
    · rw [List.length_map, lzs]
      exact Nat.pow_pos w0
    obtain ⟨zm, hzm, em⟩ := List.mem_map.mp hm
    obtain ⟨mm, emm⟩ : ∃ mm, mm = mo f zm.2 (sqs ws f) := ⟨_, rfl⟩
    rw [← emm] at em
    subst em
    have hL : Lst f ws n mm := ⟨⟨zm.2, inz zm hzm, emm⟩, fun rr hrr => by
      rw [← ez] at hrr
      obtain ⟨y, hy, rfl⟩ := List.mem_map.mp hrr
      have := hb _ (List.mem_map.mpr ⟨y, hy, rfl⟩)
      omega⟩
    refine ⟨_, rfl, _, rfl, x, ws, f, n, rfl, KD _ e44, n1, n12, few', hT4, fun q row H5 e5 T5 q0 hq mr least => ?_⟩
    refine ⟨_, _, rfl, ?_⟩
    have nqp : q ≠ p := fun e => by rw [e, hpx4] at q0; cases q0
    have lrow : Lst f ws n (mo f row (sqs ws f)) := ⟨⟨row, mr, rfl⟩, least⟩
    have erow : mo f row (sqs ws f) = mm := lrow.uniq hL
    have e45 : ExtB p H4 H5 := extB_ext e5
    have wdz : ∀ z ∈ zs, ∀ x ∈ z.2, Wd x := fun z hz x hx => kw.wd x ((alr_mem.mp (inz z hz)).2 x hx)
    have wdr : ∀ x ∈ row, Wd x := fun x hx => kw.wd x ((alr_mem.mp mr).2 x hx)
    have lr : row.length = n := (alr_mem.mp mr).1
    have shz : SeqAt.shaped (.list ((zs.map (·.2)).map rowD)) = true := shaped_rows _ fun y hy => by
      obtain ⟨z, hz, rfl⟩ := List.mem_map.mp hy
      exact wdz z hz
    have mrz : row ∈ zs.map (·.2) := by rw [ez]; exact mr
    obtain ⟨j, hj, hno⟩ := first_at mrz
    have lj : j < zs.length := by
      have := (List.getElem?_eq_some_iff.mp hj).1
      rwa [List.length_map] at this
    obtain ⟨zj, ezj⟩ : ∃ zj, zs[j]? = some zj := ⟨_, List.getElem?_eq_getElem lj⟩
    have ezj2 : zj.2 = row := by rw [List.getElem?_map, ezj] at hj; exact Option.some.inj hj
    have atN : ∀ (i : Nat) (z : Addr × List Str), zs[i]? = some z → (zs.map fun z => V.int (mo f z.2 (sqs ws f) : Nat))[i]? = some (V.int (mo f z.2 (sqs ws f) : Nat)) := fun i z e => by rw [List.getElem?_map, e]; rfl
    refine ⟨fun b H' => b = false ∧ ExtN H5 H' ∧ Tabs (tbK K) H', ?_, ?_⟩
    · refine ⟨_, rfl, _, rfl, x, ws, f, n, rfl, KD _ e45, n1, n12, few', T5, fun m' H6 e6 T6 hm' => ?_⟩
      obtain rfl := hm'.uniq hL
      refine ⟨_, rfl, _, _, rfl, .inl (.inr (.inl ⟨_, rfl, rfl⟩)), fun H7 s7 => ⟨_, rfl, ?_⟩⟩
      refine iteF ?_
      have e57 := e6.trans (same_ext s7)
      have e47 : ExtB p H4 H7 := e45.trans (extB_ext e57)
      have hq7 := e57 _ _ hq (fun ps z => by cases z)
      have rw7 := RW _ e47
      refine ⟨_, rfl, _, rfl, rowD row, _, dp_strs (SqL.of hq7), .lst (SqL.of rw7.at') (dpAll_rows rw7.row), shaped_strs _ wdr, shz, _, rfl, ?_⟩
      rw [any_rows, decide_eq_true mrz]
      refine iteF ?_
      refine ⟨_, rfl, _, rfl, .inl ⟨rfl, _, SqL.of rw7.at'⟩, _, rfl, ?_⟩
      dsimp only [tNil]
      refine idx_rows rw7 hq7 wdz hj hno ?_
      refine ⟨D, _, _, _, rfl, rfl, SqL.of (NQ _ e47), atI_nat (atN j zj ezj), _, rfl, rfl, _, rfl, ?_, e57, T6.ext s7⟩
      rw [ezj2, erow, decide_eq_true rfl]
      rfl
    rintro b H7 ⟨rfl, e57, T7⟩
    refine iteF ?_
    have e47 : ExtB p H4 H7 := e45.trans (extB_ext e57)
    have hq7 := e57 _ _ hq (fun ps z => by cases z)
    have rw7 := RW _ e47
    have hP7 : PurseAt H7 p B := ((hP.mono s04).ext e5).ext e57
    obtain ⟨px7, hpx7⟩ := hP7.lst
    refine ⟨_, rfl, _, rfl, r, _, rfl, .inl (SqL.of rw7.at'), _, rfl, RgOk.of_le (by omega) (by rw [List.length_map]; omega) (by omega) (by omega), fun l1 l10 => ?_⟩
    have eR : rgV 0 ((zs.map fun z => V.ref z.1).length : Nat) = (List.range zs.length).map fun i => V.int (i : Nat) := by
      unfold rgV
      rw [List.length_map, show (((zs.length : Nat) : Int) - 0).toNat = zs.length by omega]
      exact List.map_congr_left fun i _ => by rw [show (0 : Int) + ((i : Nat) : Int) = ((i : Nat) : Int) by omega]
    rw [eR]
    have t1 := Same.new (H := H7) (o := .lst ((List.range zs.length).map fun i => V.int (i : Nat))) l10
    have hl1 : upd H7 l1 (.lst ((List.range zs.length).map fun i => V.int (i : Nat))) l1 = _ := upd_same
    generalize upd H7 l1 (.lst ((List.range zs.length).map fun i => V.int (i : Nat))) = H8 at t1 hl1 ⊢
    have npl : p ≠ l1 := ne_of_none hpx7 l10
    refine ⟨p, l1, _, B, rfl, npl, hP7.mono t1, b0, by omega, hl1, by rw [List.length_map, List.length_range]; omega, fun q2 ys H9 q20 bt9 hP9 hq2 pm => ?_⟩
    have e79 : ExtB p H7 H9 := (extB_ext (same_ext t1)).trans (extB_but bt9)
    have e49 := e47.trans e79
    have T8 := T7.ext t1
    obtain ⟨px8, hpx8⟩ := (hP7.mono t1).lst
    have T9 : Tabs (tbK K) H9 := tabs_but T8 hpx8 bt9
    refine ⟨_, rfl, q2, _, rfl, SqL.of hq2, fun l2 l20 => ?_⟩
    have t2 := Same.new (H := H9) (o := .lst (cutV ys none (some 2))) l20
    have hl2 : upd H9 l2 (.lst (cutV ys none (some 2))) l2 = _ := upd_same
    have mcut : ∀ v ∈ cutV ys none (some 2), ∃ i, i < zs.length ∧ v = .int (i : Nat) := fun v hv => by
      have hv2 : v ∈ ys := List.mem_of_mem_drop (List.mem_of_mem_take (by unfold cutV at hv; exact hv))
      obtain ⟨i, hi, e⟩ := List.mem_map.mp (pm.mem_iff.mp hv2)
      exact ⟨i, List.mem_range.mp hi, e.symm⟩
    have lcut : (cutV ys none (some 2)).length ≤ 256 := by
      have a := cutV_length ys none (some 2)
      have b := pm.length_eq
      rw [List.length_map, List.length_range] at b
      omega
    generalize cutV ys none (some 2) = cs at t2 hl2 mcut lcut ⊢
    generalize upd H9 l2 (.lst cs) = H10 at t2 hl2 ⊢
    have e410 := e49.trans (extB_ext (same_ext t2))
    have rw10 := RW _ e410
    have e510 : ExtB p H5 H10 := (extB_ext e57).trans (e79.trans (extB_ext (same_ext t2)))
    have hq10 := e510 _ _ nqp hq (fun ps z => by cases z)
    refine ⟨_, rfl, .inl ⟨rfl, _, SqL.of rw10.at'⟩, _, rfl, ?_⟩
    refine bm_idx (idx_rows rw10 hq10 wdz hj hno ?_)
    refine ⟨(by show 1 ≤ sizeLine; decide), fun l3 l30 => ?_⟩
    have t3 := Same.new (H := H10) (o := .lst [.int (j : Nat)]) l30
    have hl3 : upd H10 l3 (.lst [.int (j : Nat)]) l3 = _ := upd_same
    generalize upd H10 l3 (.lst [.int (j : Nat)]) = H11 at t3 hl3 ⊢
    refine ⟨l2, l3, cs, [.int (j : Nat)], rfl, rfl, t3 _ _ hl2, hl3, by rw [sizeLine_eq]; show _ + 1 ≤ _; omega, fun l4 l40 => ?_⟩
    have t4 := Same.new (H := H11) (o := .lst (cs ++ [.int (j : Nat)])) l40
    have hl4 : upd H11 l4 (.lst (cs ++ [.int (j : Nat)])) l4 = _ := upd_same
    have mG : ∀ v ∈ cs ++ [V.int (j : Nat)], ∃ i, i < zs.length ∧ v = .int (i : Nat) := fun v hv => by
      rcases List.mem_append.mp hv with hv | hv
      · exact mcut v hv
      · exact ⟨j, lj, List.mem_singleton.mp hv⟩
    generalize cs ++ [V.int (j : Nat)] = G at t4 hl4 mG ⊢
    generalize upd H11 l4 (.lst G) = HB at t4 hl4 ⊢
    have t24 := t2.trans (t3.trans t4)
    have TB' := T9.ext t24
    have e9B : ExtN H9 HB := same_ext t24
    have e4B : ExtB p H4 HB := e49.trans (extB_ext e9B)
    have hPB := hP9.mono t24
    have e5B : ExtB p H5 HB := (extB_ext e57).trans (e79.trans (extB_ext e9B))
    refine ⟨l4, rfl, ⟨_, SqL.of hl4⟩, ?_⟩
    refine for_list (K := K) (a := l4) (xs := G) (fun i σ H' => ∃ x8 x9 : Option V, σ = [some (.ref p), some (.ref d), some (.int n), some (.ref x), some (.ref r), some (.ref D), some (.int (mm : Nat)), some (.ref q), x8, x9, none] ∧ ExtN HB H' ∧ Tabs (tbK K) H') ?_ ?_ ?_ ?_
    · exact ⟨_, _, rfl, ExtN.refl _, TB'⟩
    · rintro i σ H' hi ⟨x8, x9, rfl, eB, TB2⟩
      exact SqL.of (eB _ _ hl4 (fun ps z => by cases z))
    · rintro i v σ H12 hv ⟨x8, x9, rfl, eB, T12⟩
      obtain ⟨a, la, rfl⟩ := mG v (List.mem_of_getElem? hv)
      refine at_name (σ' := [some (.ref p), some (.ref d), some (.int n), some (.ref x), some (.ref r), some (.ref D), some (.int (mm : Nat)), some (.ref q), some (.int (a : Nat)), x9, none]) rfl ?_
      obtain ⟨z, eza⟩ : ∃ z, zs[a]? = some z := ⟨_, List.getElem?_eq_getElem la⟩
      have mz := List.mem_of_getElem? eza
      obtain ⟨lz, mk⟩ := alr_mem.mp (inz z mz)
      have e412 := e4B.trans (extB_ext eB)
      have rw12 := RW _ e412
      have va : (zs.map fun z => V.ref z.1)[a]? = some (V.ref z.1) := by rw [List.getElem?_map, eza]; rfl
      refine ⟨_, rfl, _, rfl, r, _, _, _, rfl, rfl, SqL.of rw12.at', atI_nat va, z.1, _, rfl, .inl (SqL.of (rw12.row z mz)), fun h h0 => ?_⟩
      have t5 := Same.new (H := H12) (o := .lst (z.2.map V.str)) h0
      have hh : upd H12 h (.lst (z.2.map V.str)) h = _ := upd_same
      generalize upd H12 h (.lst (z.2.map V.str)) = H13 at t5 hh ⊢
      refine at_name (σ' := [some (.ref p), some (.ref d), some (.int n), some (.ref x), some (.ref r), some (.ref D), some (.int (mm : Nat)), some (.ref q), some (.int (a : Nat)), some (.ref h), none]) rfl ?_
      have e413 := e412.trans (extB_ext (same_ext t5))
      refine ⟨_, rfl, _, rfl, _, rfl, x, h, ws, f, n, z.2, rfl, KD _ e413, n1, n12, few', T12.ext t5, hh, by omega, mk, fun b H14 e14 T14 hb14 => ?_⟩
      have hh14 := e14 _ _ hh (fun ps z => by cases z)
      refine ⟨_, rfl, (by show 2 ≤ sizeLine; decide), fun l5 l50 => ?_⟩
      have t6 := Same.new (H := H14) (o := .lst [.bl b, .ref h]) l50
      have hl5 : upd H14 l5 (.lst [.bl b, .ref h]) l5 = _ := upd_same
      generalize upd H14 l5 (.lst [.bl b, .ref h]) = H15 at t6 hl5 ⊢
      have e415 := (e413.trans (extB_ext e14)).trans (extB_ext (same_ext t6))
      have rw15 := RW _ e415
      refine ⟨_, rfl, _, rfl, D, _, _, _, rfl, rfl, SqL.of (NQ _ e415), atI_nat (atN a z eza), _, rfl, rfl, ?_⟩
      refine ⟨_, rfl, _, rfl, r, _, _, _, rfl, rfl, SqL.of rw15.at', atI_nat va, (by show 2 ≤ sizeLine; decide), fun l6 l60 => ?_⟩
      have eb : b = decide (V.int (mo f z.2 (sqs ws f) : Nat) = V.int (mm : Nat)) := by
        rw [Bool.eq_iff_iff, decide_eq_true_eq, hb14]
        exact ⟨fun hx => by rw [hx.2.uniq hL], fun hx => ⟨lz, by rw [Int.ofNat.inj (V.int.inj hx)]; exact hL⟩⟩
      rw [← eb]
      have t7 := Same.new (H := H15) (o := .lst [.bl b, .ref z.1]) l60
      have hl6 : upd H15 l6 (.lst [.bl b, .ref z.1]) l6 = _ := upd_same
      generalize upd H15 l6 (.lst [.bl b, .ref z.1]) = H16 at t7 hl6 ⊢
      refine ⟨.ref l5, .ref l6, rfl, .inr (.inl ⟨l5, l6, _, _, rfl, rfl, t7 _ _ hl5, hl6, (by show 2 ≤ 100; decide), .cons (.inl (.inr (.inr (.inl ⟨b, rfl, rfl⟩)))) (.cons (alike_strs (row := z.2) (t7 _ _ (t6 _ _ hh14)) (t7 _ _ (rw15.row z mz)) (by omega)) .nil)⟩), fun H17 s17 => ⟨_, rfl, iteF ?_⟩⟩
      exact ⟨_, _, rfl, ((eB.trans (same_ext t5)).trans e14).trans (same_ext (t6.trans (t7.trans s17))), T14.ext (t6.trans (t7.trans s17))⟩
    · rintro σ H12 ⟨x8, x9, rfl, eB, T12⟩
      have e412 := e4B.trans (extB_ext eB)
      have hq12 := eB _ _ (e5B _ _ nqp hq (fun ps z => by cases z)) (fun ps z => by cases z)
      refine ⟨_, rfl, .inl ⟨rfl, _, SqL.of hq12⟩, ?_⟩
      refine ⟨q, _, _, rfl, rfl, hq12, by rw [List.length_map, lr, sizeLine_eq]; omega, ?_⟩
      have T13 := tabs_upd (o := .lst (row.map V.str ++ [.str "more"])) T12 hq12
      have e413 : ExtB p H4 (upd H12 q (.lst (row.map V.str ++ [.str "more"]))) := extB_upd e412 (fre_none q0)
      have hP13 : PurseAt (upd H12 q (.lst (row.map V.str ++ [.str "more"]))) p (B + 1100) := ((hPB.ext eB).upd nqp.symm).le (by rw [List.length_map, List.length_range]; omega)
      generalize upd H12 q (.lst (row.map V.str ++ [.str "more"])) = H13 at T13 e413 hP13 ⊢
      refine ⟨_, rfl, _, rfl, x, ws, f, n, rfl, KD _ e413, n1, n12, few', T13, fun q' row' H14 e14 T14 q'0 hq' mr' least' => ?_⟩
      have e414 := e413.trans (extB_ext e14)
      have rw14 := RW _ e414
      refine ⟨_, rfl, rowD row', _, dp_strs (SqL.of hq'), .lst (SqL.of rw14.at') (dpAll_rows rw14.row), shaped_strs _ (fun y hy => kw.wd y ((alr_mem.mp mr').2 y hy)), shz, _, rfl, ?_⟩
      rw [any_rows, decide_eq_true (by rw [ez]; exact mr')]
      refine iteT ⟨_, rfl, k mm H14 hL ((extB_ext (same_ext s04)).trans e414) (hP13.ext e14) T14⟩
end
end KT
set_option Elab.async false
set_option linter.all false
set_option maxRecDepth 100000
set_option maxHeartbeats 2000000
set_option pp.maxSteps 900
namespace KT
open PySem L2 PyProof.Rows DTp TxS
open LamX MnK
theorem Lst.le {f : Str → Str → Str} {ws : List Str} {n n' m m' : Nat} (h : Lst f ws n m) (h' : Lst f ws n' m') (l : n ≤ n') : m ≤ m' := by
  obtain ⟨⟨row, hr, e⟩, _⟩ := h'
  obtain ⟨lr, mk⟩ := alr_mem.mp hr
  have := h.2 (row.take n) (alr_mem.mpr ⟨by rw [List.length_take]; omega, fun k hk => mk k (List.mem_of_mem_take hk)⟩)
  rw [e]
  exact Nat.le_trans this (mo_take (by omega))
def baseN : List (List Nat) := [[1, 2, 3, 4, 5, 6, 12], [1, 2, 3, 4, 5], [1, 2, 3], [1, 2]]
def moreN : List (List Nat) := [[], [8], [4], [3]]
def iV (l : List Nat) : List V := l.map fun n => V.int (n : Nat)
def NumOk (k : Nat) (ns : List Nat) : Prop := (∀ n ∈ ns, 1 ≤ n ∧ n ≤ 12 ∧ k ^ n ≤ 256) ∧ ns.Pairwise (· ≤ ·) ∧ ns.length ≤ 8
theorem num_ok (k : Nat) (h0 : 0 < k) (h4 : k ≤ 4) (b : Bool) : NumOk k (baseN.getD (k - 1) [] ++ if b then moreN.getD (k - 1) [] else []) := by
  have : k = 1 ∨ k = 2 ∨ k = 3 ∨ k = 4 := by omega
  unfold NumOk
  rcases this with rfl | rfl | rfl | rfl <;> cases b <;> exact ⟨by decide, by decide, by decide⟩
structure LawC (P : Program) (w : World) (K : PySem.W.Frag) (mg : Str → Option Value) (base : Heap) (C : Addr) : Prop where
  pur : Cee P w K mg base 2 "_law_purses" ["_law_script", "_law_few"] (spPurses K)
  tab : Cee P w K mg base 5 "_law_table" ["_law_purse_here", "_law_most_here"] spTable
  dr : Cee P w K mg base 2 "_law_draw" ["_law_purse_here", "_law_many"] spDraw
  kof : Cee P w K mg base 1 "_law_kinds_of" ["_law_table_here"] spKindsOf
  mkd : Cee P w K mg base 6 "_law_made_kinds" ["_law_table_here"] (spMadeKinds C)
  nr : Cee P w K mg base 13 "_law_number_right" ["_law_purse_here", "_law_table_here", "_law_number"] (spNR K)
  isc : Cee P w K mg base 12 "is_scarce_row" ["kinds", "number", "value"] (spIsSc K C)
def spLaw (K : PySem.W.Frag) : Sp := fun vs H Q _ => ∃ (a : Addr) (ns : List Int), vs = [.ref a] ∧ SqL K H a (ns.map V.int) ∧ ns.length ≤ 63 ∧ Tabs (tbK K) H ∧ ∀ H', Q (.bl true) H'
section
variable {P : Program} {w : World} {K : PySem.W.Frag} {mg : Str → Option Value} {base : Heap} {C S G : Addr}
abbrev nLawF : List Str := ["_law_script", "_law_purse_here", "_law_table_here", "_law_ahead", "_law_kinds", "_law_is_more", "_law_numbers", "_law_number", "_law_told"]
theorem scLawF : FnScope nLawF ["_law_script"] (defScope sLawF) := ⟨rfl, rfl, rfl, by decide +kernel, rfl, by decide +kernel, by decide +kernel⟩
theorem ok_lawF {g : Addr} {fd : FuncData} (F : Fun K "law" "law" sLawF g fd) (B0 : Blt mg) (M : LawC P w K mg base C) : FnOk P w K mg base CX0 14 g fd ["_law_script"] (spLaw K) := by
  refine F.ok scLawF (fun vs H Q E h => ?_) (fun cdv A outer s H vs Q E hr h => ?_)
  · obtain ⟨a, ns, rfl, _⟩ := h
    rfl
  · obtain ⟨a, ns, rfl, hS, hl, hT, k⟩ := h
    have nd := scLawF.nd
    refine ⟨_, pss_cons (ps_for PassesOwn.never rfl (pi_list (pe_c M.pur hr rfl (pa_cons (pv 0) (pa_cons (pe_int) (pa_nil))))) (pg_name (i := 1) nd rfl (Or.inl rfl)) (pss_cons (ps_par (i := 2) (j := 3) rfl nd rfl rfl (by decide) rfl rfl (pa_cons (pe_c M.tab hr rfl (pa_cons (pv 1) (pa_cons (pe_op op_add (pe_int) (pe_callTy call_int1 (by rfl) B0.int boot_int (pa_cons (pe_cmpR op_eq (pe_c M.dr hr rfl (pa_cons (pv 1) (pa_cons (pe_int) (pa_nil)))) (pe_int) (nomark _)) (pa_nil)))) (pa_nil)))) (pa_cons (pe_int) (pa_nil))) (by rfl))
      (pss_cons (ps_par (i := 4) (j := 5) rfl nd rfl rfl (by decide) rfl rfl (pa_cons (pe_callB call_len_seq (by rfl) B0.len PySem.boot_len (pa_cons (pe_c M.kof hr rfl (pa_cons (pv 2) (pa_nil))) (pa_nil))) (pa_cons (pe_cmpR op_eq (pe_c M.dr hr rfl (pa_cons (pv 1) (pa_cons (pe_int) (pa_nil)))) (pe_int) (nomark _)) (pa_nil))) (by rfl))
      (pss_cons (ps_set (i := 6) nd rfl (Or.inl rfl) (pe_cutE (pe_op op_cat (pe_ix ix_list (pe_lst (pa_cons (pe_lst (pa_cons (pe_int) (pa_cons (pe_int) (pa_cons (pe_int) (pa_cons (pe_int) (pa_cons (pe_int) (pa_cons (pe_int) (pa_cons (pe_int) (pa_nil))))))))) (pa_cons (pe_lst (pa_cons (pe_int) (pa_cons (pe_int) (pa_cons (pe_int) (pa_cons (pe_int) (pa_cons (pe_int) (pa_nil))))))) (pa_cons (pe_lst (pa_cons (pe_int) (pa_cons (pe_int) (pa_cons (pe_int) (pa_nil))))) (pa_cons (pe_lst (pa_cons (pe_int) (pa_cons (pe_int) (pa_nil)))) (pa_nil)))))) (pe_op op_sub (pv 4) (pe_int)) (fun _ _ => rfl)) (pe_op op_rep (pe_ix ix_list (pe_lst (pa_cons (pe_lst (pa_nil)) (pa_cons (pe_lst (pa_cons (pe_int) (pa_nil))) (pa_cons (pe_lst (pa_cons (pe_int) (pa_nil))) (pa_cons (pe_lst (pa_cons (pe_int) (pa_nil))) (pa_nil)))))) (pe_op op_sub (pv 4) (pe_int)) (fun _ _ => rfl)) (pe_callTy call_int1 (by rfl) B0.int boot_int (pa_cons (pv 5) (pa_nil)))))))
      (pss_cons (ps_for PassesOwn.never rfl (pi_list (pv 6)) (pg_name (i := 7) nd rfl (Or.inl rfl)) (pss_cons (ps_set (i := 8) nd rfl (Or.inl rfl) (pe_c M.nr hr rfl (pa_cons (pv 1) (pa_cons (pv 2) (pa_cons (pv 7) (pa_nil))))))
      (pss_cons (ps_if (PW.pt (pw_or (pt_cmpR op_isN (pv 8) pe_non (nomark _)) (pw_or1 (pt_cmpR op_lt (pv 8) (pv 3) (nomark _))))) (pss_one (ps_ret (pe_bl))) pss_nil)
      (pss_one (ps_set (i := 3) nd rfl (Or.inl rfl) (pv 8))))))
      (pss_one (ps_if (pt_cmpR op_notBl (pe_c M.isc hr rfl (pa_cons (pe_c M.mkd hr rfl (pa_cons (pv 2) (pa_nil))) (pa_cons (pe_int) (pa_cons (pe_op op_rep (pe_slice sl_list (pe_c M.kof hr rfl (pa_cons (pv 2) (pa_nil))) (po_none) (po_some (pe_int))) (pe_int)) (pa_nil))))) pe_bl (nomark _)) (pss_one (ps_ret (pe_bl))) pss_nil)))))))
      (pss_one (ps_ret (pe_bl))), ?_⟩
    refine ⟨_, rfl, a, ns, 1, rfl, hS, hl, by decide, by decide, fun l ps G s1 hlG hps ndp ne lps => ?_⟩
    refine ⟨l, rfl, ⟨_, SqL.of hlG⟩, ?_⟩
    refine for_list (K := K) (a := l) (xs := ps.map V.ref) (fun i σ H' => ∃ (x1 x2 x3 x4 x5 x6 x7 x8 : Option V), σ = [some (.ref a), x1, x2, x3, x4, x5, x6, x7, x8] ∧ H' l = some (.lst (ps.map V.ref)) ∧ Tabs (tbK K) H' ∧ (i = 0 → ∀ p ∈ ps, PurseAt H' p 0)) ?_ ?_ ?_ ?_
    · exact ⟨_, _, _, _, _, _, _, _, rfl, hlG, hT.ext s1, fun _ p hp => (hps p hp).1⟩
    · rintro i σ H' _ ⟨x1, x2, x3, x4, x5, x6, x7, x8, rfl, hl', _⟩
      exact SqL.of hl'
    · rintro i v σ H1 hv ⟨x1, x2, x3, x4, x5, x6, x7, x8, rfl, hl1, T1, pu⟩
      rw [List.getElem?_map] at hv
      cases ep : ps[i]? with
      | none => rw [ep] at hv; cases hv
      | some p =>
        rw [ep] at hv
        rw [← Option.some.inj hv]
        have i0 : i = 0 := by
          have := (List.getElem?_eq_some_iff.mp ep).1
          omega
        have mp := List.mem_of_getElem? ep
        have hP := pu i0 p mp
        have npl : l ≠ p := (hps p mp).2.2.symm
        refine at_name (σ' := [some (.ref a), some (.ref p), x2, x3, x4, x5, x6, x7, x8]) rfl ?_
        refine ⟨_, rfl, _, rfl, p, 6, 0, rfl, hP, by decide, by decide, by decide, by decide, fun r1 H2 bt1 hP1 r10 r11 => ?_⟩
        refine ⟨rfl, .inr ⟨_, rfl, ?_⟩⟩
        obtain ⟨mo, emo, m0, m4⟩ : ∃ mo : Nat, (3 + (if decide (V.int r1 = V.int 0) = true then (1 : Int) else 0)) = ((mo : Nat) : Int) ∧ 0 < mo ∧ mo ≤ 4 := by
          cases decide (V.int r1 = V.int 0) with
          | true => exact ⟨4, rfl, by decide, by decide⟩
          | false => exact ⟨3, rfl, by decide, by decide⟩
        refine ⟨_, _, rfl, rfl, p, _, mo, (by rw [← emo]; rfl), m0, m4, hP1, by decide, by decide, fun d ws f H3 d0 bt3 hP3 hd kw => ?_⟩
        refine ⟨_, _, rfl, ?_⟩
        refine at_slots (σ' := [some (.ref a), some (.ref p), some (.ref d), some (.int 0), x4, x5, x6, x7, x8]) rfl ?_
        have ndp' : d ≠ p := fun e => by
          obtain ⟨xs, h⟩ := hP3.lst
          rw [← e, hd] at h
          cases h
        refine ⟨_, rfl, d, ws, f, rfl, hd, kw, fun kl H4 s4 kl0 hkl => ?_⟩
        refine ⟨kl, _, rfl, .inl (SqL.of hkl), _, rfl, p, 7, _, rfl, hP3.mono s4, by decide, by decide, by decide, by decide, fun r2 H5 bt5 hP5 r20 r21 => ?_⟩
        refine ⟨rfl, _, _, rfl, ?_⟩
        obtain ⟨b2, eb2⟩ : ∃ b2, b2 = decide (V.int r2 = V.int 0) := ⟨_, rfl⟩
        rw [← eb2]
        refine at_slots (σ' := [some (.ref a), some (.ref p), some (.ref d), some (.int 0), some (.int ((ws.map V.str).length : Nat)), some (.bl b2), x6, x7, x8]) rfl ?_
        have w0 := kw.pos
        have w4 := kw.few
        have lw : (ws.map V.str).length = ws.length := List.length_map _
        obtain ⟨m, em⟩ : ∃ m, m = ws.length := ⟨_, rfl⟩
        rw [lw, ← em]
        have ei : ((m : Nat) : Int) - 1 = ((m - 1 : Nat) : Int) := by omega
        have mc : m = 1 ∨ m = 2 ∨ m = 3 ∨ m = 4 := by omega
        have d5 : H5 d = some (.dT (tabW ws f)) := bt5 _ _ ndp' (s4 _ _ hd)
        have T5 : Tabs (tbK K) H5 := by
          obtain ⟨q1, e1⟩ := hP.lst
          obtain ⟨q2, e2⟩ := hP1.lst
          obtain ⟨q3, e3⟩ := (hP3.mono s4).lst
          exact tabs_but ((tabs_but (tabs_but T1 e1 bt1) e2 bt3).ext s4) e3 bt5
        have e15 : ExtB p H1 H5 := ((extB_but bt1).trans (extB_but bt3)).trans ((extB_ext (same_ext s4)).trans (extB_but bt5))
        refine ⟨fun v H' => L2.Same H5 H' ∧ ∃ q, v = .ref q ∧ H5 q = none ∧ H' q = some (.lst (iV (baseN.getD (m - 1) [] ++ if b2 then moreN.getD (m - 1) [] else []))), ?_, ?_⟩
        · refine ⟨(by show 7 ≤ sizeLine; decide), fun p1 p10 => ⟨(by show 5 ≤ sizeLine; decide), fun p2 p20 => ⟨(by show 3 ≤ sizeLine; decide), fun p3 p30 => ⟨(by show 2 ≤ sizeLine; decide), fun p4 p40 => ⟨(by show 4 ≤ sizeLine; decide), fun P P0 => ?_⟩⟩⟩⟩⟩
          have tp1 := Same.new (H := H5) (o := .lst [V.int 1, V.int 2, V.int 3, V.int 4, V.int 5, V.int 6, V.int 12]) p10
          have hp1 : upd H5 p1 (.lst [V.int 1, V.int 2, V.int 3, V.int 4, V.int 5, V.int 6, V.int 12]) p1 = _ := upd_same
          generalize upd H5 p1 (.lst [V.int 1, V.int 2, V.int 3, V.int 4, V.int 5, V.int 6, V.int 12]) = A0 at tp1 hp1 p20 p30 p40 P0 ⊢
          have tp2 := Same.new (H := A0) (o := .lst [V.int 1, V.int 2, V.int 3, V.int 4, V.int 5]) p20
          have hp2 : upd A0 p2 (.lst [V.int 1, V.int 2, V.int 3, V.int 4, V.int 5]) p2 = _ := upd_same
          generalize upd A0 p2 (.lst [V.int 1, V.int 2, V.int 3, V.int 4, V.int 5]) = A1 at tp2 hp2 p30 p40 P0 ⊢
          have tp3 := Same.new (H := A1) (o := .lst [V.int 1, V.int 2, V.int 3]) p30
          have hp3 : upd A1 p3 (.lst [V.int 1, V.int 2, V.int 3]) p3 = _ := upd_same
          generalize upd A1 p3 (.lst [V.int 1, V.int 2, V.int 3]) = A2 at tp3 hp3 p40 P0 ⊢
          have tp4 := Same.new (H := A2) (o := .lst [V.int 1, V.int 2]) p40
          have hp4 : upd A2 p4 (.lst [V.int 1, V.int 2]) p4 = _ := upd_same
          generalize upd A2 p4 (.lst [V.int 1, V.int 2]) = A3 at tp4 hp4 P0 ⊢
          have tP := Same.new (H := A3) (o := .lst [V.ref p1, V.ref p2, V.ref p3, V.ref p4]) P0
          have hP : upd A3 P (.lst [V.ref p1, V.ref p2, V.ref p3, V.ref p4]) P = _ := upd_same
          generalize upd A3 P (.lst [V.ref p1, V.ref p2, V.ref p3, V.ref p4]) = A4 at tP hP ⊢
          have gp1 := tP _ _ (tp4 _ _ (tp3 _ _ (tp2 _ _ (hp1))))
          have gp2 := tP _ _ (tp4 _ _ (tp3 _ _ (hp2)))
          have gp3 := tP _ _ (tp4 _ _ (hp3))
          have gp4 := tP _ _ (hp4)
          have tA : L2.Same H5 A4 := tp1.trans (tp2.trans (tp3.trans (tp4.trans tP)))
          obtain ⟨pm, epm, hpm⟩ : ∃ pm, [V.ref p1, V.ref p2, V.ref p3, V.ref p4][m - 1]? = some (V.ref pm) ∧ A4 pm = some (.lst (iV (baseN.getD (m - 1) []))) := by
            rcases mc with h | h | h | h <;> rw [h]
            · exact ⟨p1, rfl, gp1⟩
            · exact ⟨p2, rfl, gp2⟩
            · exact ⟨p3, rfl, gp3⟩
            · exact ⟨p4, rfl, gp4⟩
          refine ⟨_, rfl, _, _, rfl, rfl, P, _, _, .ref pm, rfl, rfl, SqL.of hP, (by rw [ei]; exact atI_nat epm), ?_⟩
          refine ⟨(by show 0 ≤ sizeLine; decide), fun q1 q10 => ⟨(by show 1 ≤ sizeLine; decide), fun q2 q20 => ⟨(by show 1 ≤ sizeLine; decide), fun q3 q30 => ⟨(by show 1 ≤ sizeLine; decide), fun q4 q40 => ⟨(by show 4 ≤ sizeLine; decide), fun R R0 => ?_⟩⟩⟩⟩⟩
          have tq1 := Same.new (H := A4) (o := .lst []) q10
          have hq1 : upd A4 q1 (.lst []) q1 = _ := upd_same
          generalize upd A4 q1 (.lst []) = B0_ at tq1 hq1 q20 q30 q40 R0 ⊢
          have tq2 := Same.new (H := B0_) (o := .lst [V.int 8]) q20
          have hq2 : upd B0_ q2 (.lst [V.int 8]) q2 = _ := upd_same
          generalize upd B0_ q2 (.lst [V.int 8]) = B1_ at tq2 hq2 q30 q40 R0 ⊢
          have tq3 := Same.new (H := B1_) (o := .lst [V.int 4]) q30
          have hq3 : upd B1_ q3 (.lst [V.int 4]) q3 = _ := upd_same
          generalize upd B1_ q3 (.lst [V.int 4]) = B2_ at tq3 hq3 q40 R0 ⊢
          have tq4 := Same.new (H := B2_) (o := .lst [V.int 3]) q40
          have hq4 : upd B2_ q4 (.lst [V.int 3]) q4 = _ := upd_same
          generalize upd B2_ q4 (.lst [V.int 3]) = B3_ at tq4 hq4 R0 ⊢
          have tR := Same.new (H := B3_) (o := .lst [V.ref q1, V.ref q2, V.ref q3, V.ref q4]) R0
          have hR : upd B3_ R (.lst [V.ref q1, V.ref q2, V.ref q3, V.ref q4]) R = _ := upd_same
          generalize upd B3_ R (.lst [V.ref q1, V.ref q2, V.ref q3, V.ref q4]) = B4_ at tR hR ⊢
          have gq1 := tR _ _ (tq4 _ _ (tq3 _ _ (tq2 _ _ (hq1))))
          have gq2 := tR _ _ (tq4 _ _ (tq3 _ _ (hq2)))
          have gq3 := tR _ _ (tq4 _ _ (hq3))
          have gq4 := tR _ _ (hq4)
          have tB : L2.Same A4 B4_ := tq1.trans (tq2.trans (tq3.trans (tq4.trans tR)))
          obtain ⟨qm, eqm, hqm⟩ : ∃ qm, [V.ref q1, V.ref q2, V.ref q3, V.ref q4][m - 1]? = some (V.ref qm) ∧ B4_ qm = some (.lst (iV (moreN.getD (m - 1) []))) := by
            rcases mc with h | h | h | h <;> rw [h]
            · exact ⟨q1, rfl, gq1⟩
            · exact ⟨q2, rfl, gq2⟩
            · exact ⟨q3, rfl, gq3⟩
            · exact ⟨q4, rfl, gq4⟩
          have lm : (iV (moreN.getD (m - 1) [])).length ≤ 1 := by rcases mc with h | h | h | h <;> rw [h] <;> decide
          have lb : (iV (baseN.getD (m - 1) [])).length ≤ 7 := by rcases mc with h | h | h | h <;> rw [h] <;> decide
          refine ⟨_, rfl, _, _, rfl, rfl, R, _, _, .ref qm, rfl, rfl, SqL.of hR, (by rw [ei]; exact atI_nat eqm), ?_⟩
          refine ⟨_, rfl, .inr ⟨b2, rfl, ?_⟩⟩
          have ek : (List.replicate (if b2 = true then (1 : Int) else 0).toNat (iV (moreN.getD (m - 1) []))).flatten = iV (if b2 then moreN.getD (m - 1) [] else []) := by
            cases b2 with
            | true => exact List.append_nil _
            | false => rfl
          have kb : 0 ≤ (if b2 = true then (1 : Int) else 0) ∧ (if b2 = true then (1 : Int) else 0) ≤ 1 := by cases b2 <;> decide
          have lmk : (iV (moreN.getD (m - 1) [])).length * (if b2 = true then (1 : Int) else 0).toNat ≤ sizeLine := by
            rw [sizeLine_eq]
            have : (iV (moreN.getD (m - 1) [])).length * (if b2 = true then (1 : Int) else 0).toNat ≤ 1 * 1 := Nat.mul_le_mul lm (by omega)
            omega
          refine ⟨qm, _, _, rfl, rfl, hqm, by omega, by omega, lmk, fun q5 q50 => ?_⟩
          rw [ek]
          have t5 := Same.new (H := B4_) (o := .lst (iV (if b2 then moreN.getD (m - 1) [] else []))) q50
          have hq5 : upd B4_ q5 (.lst (iV (if b2 then moreN.getD (m - 1) [] else []))) q5 = _ := upd_same
          generalize upd B4_ q5 (.lst (iV (if b2 then moreN.getD (m - 1) [] else []))) = B5_ at t5 hq5 ⊢
          have lk2 : (iV (if b2 then moreN.getD (m - 1) [] else [])).length ≤ 1 := by
            cases b2 with
            | true => exact lm
            | false => exact Nat.zero_le _
          refine ⟨pm, q5, _, _, rfl, rfl, t5 _ _ (tB _ _ hpm), hq5, by rw [sizeLine_eq]; omega, fun q6 q60 => ?_⟩
          refine ⟨tA.trans (tB.trans (t5.trans (Same.new q60))), q6, rfl, none_back (tA.trans (tB.trans t5)) q60, ?_⟩
          rw [upd_same]
          unfold iV
          rw [List.map_append]
        rintro v H6 ⟨s56, q, rfl, q0, hq⟩
        obtain ⟨nOk, nAsc, lnum⟩ := num_ok m (by omega) (by omega) b2
        generalize baseN.getD (m - 1) [] ++ (if b2 then moreN.getD (m - 1) [] else []) = nums at hq nOk nAsc lnum ⊢
        refine at_name (σ' := [some (.ref a), some (.ref p), some (.ref d), some (.int 0), some (.int (m : Nat)), some (.bl b2), some (.ref q), x7, x8]) rfl ?_
        have d6 := s56 _ _ d5
        have T6 := T5.ext s56
        have hP6 := hP5.mono s56
        have nqp : q ≠ p := fun e => by
          obtain ⟨xs, h⟩ := hP5.lst
          rw [← e, q0] at h
          cases h
        have e16 : ExtB p H1 H6 := e15.trans (extB_ext (same_ext s56))
        refine ⟨_, rfl, q, rfl, ⟨_, SqL.of hq⟩, ?_⟩
        refine for_list (K := K) (a := q) (xs := iV nums) (fun j σ H' => ∃ (ah : Nat) (x7 x8 : Option V), σ = [some (.ref a), some (.ref p), some (.ref d), some (.int (ah : Nat)), some (.int (m : Nat)), some (.bl b2), some (.ref q), x7, x8] ∧ ExtB p H6 H' ∧ PurseAt H' p (3000 + 1100 * (j : Nat)) ∧ Tabs (tbK K) H' ∧ ∀ j', j ≤ j' → ∀ n', nums[j']? = some n' → ∀ m', Lst f ws n' m' → ah ≤ m') ?_ ?_ ?_ ?_
        · exact ⟨0, _, _, rfl, ExtB.refl _ _, hP6.le (by omega), T6, fun _ _ _ _ m' _ => Nat.zero_le m'⟩
        · rintro j σ H' hj ⟨ah, x7, x8, rfl, e, _⟩
          exact SqL.of (e _ _ nqp hq (fun ps z => by cases z))
        · rintro j v σ H7 hv ⟨ah, x7, x8, rfl, e67, hP7, T7, le7⟩
          unfold iV at hv
          rw [List.getElem?_map] at hv
          cases en : nums[j]? with
          | none => rw [en] at hv; cases hv
          | some n =>
            rw [en] at hv
            rw [← Option.some.inj hv]
            have lj : j < nums.length := (List.getElem?_eq_some_iff.mp en).1
            obtain ⟨n1, n12, few⟩ := nOk n (List.mem_of_getElem? en)
            rw [em] at few
            refine at_name (σ' := [some (.ref a), some (.ref p), some (.ref d), some (.int (ah : Nat)), some (.int (m : Nat)), some (.bl b2), some (.ref q), some (.int (n : Nat)), x8]) rfl ?_
            refine ⟨_, rfl, _, rfl, _, rfl, p, d, ws, f, n, _, rfl, hP7, by omega, by omega, e67 _ _ ndp' d6 (fun ps z => by cases z), kw, n1, n12, few, T7, fun mm H8 hL e78 hP8 T8 => ?_⟩
            refine at_name (σ' := [some (.ref a), some (.ref p), some (.ref d), some (.int (ah : Nat)), some (.int (m : Nat)), some (.bl b2), some (.ref q), some (.int (n : Nat)), some (.int (mm : Nat))]) rfl ?_
            have lem := le7 j (Nat.le_refl _) n en mm hL
            refine ⟨_, rfl, rfl, _, rfl, ite2 (fun h => absurd (of_decide_eq_true h) nofun) (fun _ => ?_)⟩
            refine ⟨_, rfl, _, rfl, _, _, rfl, rfl, _, rfl, ite2 (fun h => absurd (of_decide_eq_true h) (by omega)) (fun _ => ?_)⟩
            refine ⟨_, rfl, at_name (σ' := [some (.ref a), some (.ref p), some (.ref d), some (.int (mm : Nat)), some (.int (m : Nat)), some (.bl b2), some (.ref q), some (.int (n : Nat)), some (.int (mm : Nat))]) rfl ?_⟩
            refine ⟨mm, _, _, rfl, e67.trans e78, hP8.le (by omega), T8, fun j' hj' n' en' m' hm' => hL.le hm' ?_⟩
            have lj' : j' < nums.length := (List.getElem?_eq_some_iff.mp en').1
            have q1 := (List.getElem?_eq_some_iff.mp en).2
            have q2 := (List.getElem?_eq_some_iff.mp en').2
            rw [← q1, ← q2]
            exact List.pairwise_iff_getElem.mp nAsc j j' lj lj' (by omega)
        · rintro σ H7 ⟨ah, x7, x8, rfl, e67, hP7, T7, _⟩
          have d7 := e67 _ _ ndp' d6 (fun ps z => by cases z)
          refine ⟨_, rfl, d, ws, f, rfl, d7, kw, fun x H8 s8 kn => ?_⟩
          refine ⟨_, rfl, d, ws, f, rfl, s8 _ _ d7, kw, fun kl2 H9 s9 kl20 hkl2 => ?_⟩
          refine ⟨_, rfl, kl2, _, rfl, SqL.of hkl2, fun l1 l10 => ?_⟩
          obtain ⟨w, wr, ew⟩ : ∃ w wr, ws = w :: wr := by
            cases ws with
            | nil => exact absurd w0 (by simp)
            | cons w wr => exact ⟨w, wr, rfl⟩
          have ec : cutV (ws.map V.str) none (some 1) = [V.str w] := by
            rw [show cutV (ws.map V.str) none (some 1) = (ws.map V.str).take 1 from cut_to (ws.map V.str) 1 (by rw [List.length_map]; omega), ew]
            rfl
          rw [ec]
          have t1 := Same.new (H := H9) (o := .lst [.str w]) l10
          have hl1' : upd H9 l1 (.lst [.str w]) l1 = _ := upd_same
          generalize upd H9 l1 (.lst [.str w]) = H10 at t1 hl1' ⊢
          refine ⟨l1, 3, _, rfl, rfl, hl1', by decide, by decide, (by show 1 * 3 ≤ sizeLine; decide), fun l2 l20 => ?_⟩
          have t2 := Same.new (H := H10) (o := .lst (List.replicate (3 : Int).toNat [V.str w]).flatten) l20
          have hl2 : upd H10 l2 (.lst (List.replicate (3 : Int).toNat [V.str w]).flatten) l2 = some (.lst ([w, w, w].map V.str)) := upd_same
          generalize upd H10 l2 (.lst (List.replicate (3 : Int).toNat [V.str w]).flatten) = H11 at t2 hl2 ⊢
          have s711 := s8.trans (s9.trans (t1.trans t2))
          refine ⟨x, l2, ws, f, 2, [w, w, w], rfl, kn.at.mono (s9.trans (t1.trans t2)), by decide, by decide, ?_, T7.ext s711, hl2, (by show 3 ≤ 12; decide), fun y hy => ?_, fun b H12 e12 T12 hb => ?_⟩
          · have : ws.length ^ 2 ≤ 4 ^ 2 := Nat.pow_le_pow_left w4 2
            omega
          · have : y = w := by simpa using hy
            rw [this, ew]; exact List.mem_cons_self
          · have b0 : b = false := by
              cases b with
              | false => rfl
              | true => exact absurd (hb.mp rfl).1 (by show ¬ 3 = 2; decide)
            subst b0
            refine ⟨false, false, rfl, rfl, _, rfl, iteF ?_⟩
            have e112 : ExtB p H1 H12 := e16.trans (e67.trans ((extB_ext (same_ext s711)).trans (extB_ext e12)))
            exact ⟨_, _, _, _, _, _, _, _, rfl, e112 _ _ npl hl1 (fun ps z => by cases z), T12, fun z => by cases z⟩
    · rintro σ H1 ⟨x1, x2, x3, x4, x5, x6, x7, x8, rfl, _⟩
      exact k H1
end
end KT
set_option Elab.async false
set_option linter.all false
set_option maxRecDepth 100000
set_option maxHeartbeats 0
namespace KT
open PySem PySem.Spec PyProof.Rows L2
section
variable {K : PySem.W.Frag}
/-- a def of no defaults of the text, as Fun -/
theorem fun_of {x qual : Str} {st : Stmt} {f : Addr} {fd : FuncData} (F : FunD K x qual (defArgs st) (defBody st) (defScope st) [] [] f fd) : Fun K x qual st f fd := by
  obtain ⟨oc, od, dV, kV, doc, pm, an, cdv, ct, osl, e, lk, hcd, hD, _⟩ := F.ex
  rcases hD with ⟨_, rfl⟩ | ⟨z, _⟩
  · exact ⟨⟨oc, od, kV, doc, pm, an, cdv, ct, osl, e, lk, hcd⟩, F.kp⟩
  · exact absurd rfl z
end
theorem tabs0 {K : PySem.W.Frag} {H : Hp} (h : ∀ p ∈ tf.map (He.cT K), H p.2 = some (.tbl #[])) : LamX.Tabs (tbK K) H := fun p hp => by
  have e := List.mem_singleton.mp hp
  rw [e]
  exact LamX.TabS.nil (h _ (List.mem_map.mpr ⟨_, List.mem_cons_self, rfl⟩))
theorem facts {P : Program} {w : World} {K : PySem.W.Frag} {h : Heap} {mg : Str → Option Value} {f : Addr} (X : K.In h) (G : h.Ns mainGlobals mg) (hfa : mg ("law" : Str) = some (.ref f)) (c : He.SaysD fa fn K) (m : myB K = true) :
    ∃ fd : FuncData, (∀ (s : Shared) (v : Value), BindsTo s fd ⟨[v], []⟩ [("_law_script", v)]) ∧ ∀ base : Heap, K.In base → base.Ns mainGlobals mg → (∀ p ∈ tf.map (He.cT K), LamX.TabB base mg p.1 p.2) → FnOk P w K mg base CX0 14 f fd ["_law_script"] (spLaw K) := by
  unfold myB at m
  unfold oneB at m
  simp only [Bool.and_eq_true, decide_eq_true_eq] at m
  obtain ⟨m2, m3, m1, m4, m5, m6, m7, m8, m9⟩ := m
  have fr : ∀ (i : Nat) (x : Str), fa[i]? = some (.free x) → mg x = none := fun i x e => He.free_ok X G (c.fact i e)
  have gl : ∀ (i : Nat) (x : Str), fa[i]? = some (.glo x) → mg x = some (.ref (He.ga K x)) := fun i x e => He.glo_ok X G (c.fact i e)
  have B : Blt mg := ⟨fr 54 _ rfl, fr 55 _ rfl, fr 56 _ rfl, fr 57 _ rfl, fr 58 _ rfl, fr 59 _ rfl⟩
  have Z : Blp mg := ⟨fr 60 _ rfl, fr 61 _ rfl, fr 62 _ rfl, fr 63 _ rfl, fr 64 _ rfl, fr 65 _ rfl, fr 66 _ rfl, fr 67 _ rfl, He.str_ok X G (c.fact 52 (f := .str "LETTERS" "abcdefghijklmnopqrstuvwxyz") rfl), He.int_ok X G (c.fact 53 (f := .int "LONGEST_WORD" 8) rfl)⟩
  have hz : mg "zip" = none := fr 68 _ rfl
  have han : mg "any" = none := fr 69 _ rfl
  have gC : mg "Kinds" = some (.ref (kC K)) := gl 44 "Kinds" rfl
  have T : KTx K mg (kC K) := ⟨He.cls_ok (c.fact 45 (f := .cls "Kinds") rfl), He.noat_ok (c.fact 46 (f := .noat "Kinds" "_table") rfl), He.noat_ok (c.fact 47 (f := .noat "Kinds" "_words") rfl), gC, He.eqO_ok m1, He.eqO_ok m2, m3, m4, m5⟩
  have nkC : PySem.W.notFirst K (kC K) (.ref (kC K)) = true := m9
  have MK : Mk K (kC K) (He.fAd K ("Kinds", some "__init__")) := He.mkr_ok (c.fact 51 (f := .mkr "Kinds") rfl)
  have hset : mg "set" = none := fr 70 _ rfl
  have hrev : mg "reversed" = none := fr 71 _ rfl
  have hen : mg "enumerate" = none := fr 72 _ rfl
  obtain ⟨fd0, D0⟩ := c.def_ 0 (d := lawD "is_word" pIsWord) rfl
  have b0 : Binds K fd0 ["value"] [] := FunD.bindsN D0 fun _ _ _ _ _ _ us hl => match us, hl with | [_], _ => rfl
  have g0 := gl 0 "is_word" rfl
  have k0 : PySem.W.keepIn K (.ref (He.fAd K ("is_word", none))) = true := D0.kp
  obtain ⟨fd1, D1⟩ := c.def_ 1 (d := lawD "is_count" pIsCount) rfl
  have b1 : Binds K fd1 ["value"] [] := FunD.bindsN D1 fun _ _ _ _ _ _ us hl => match us, hl with | [_], _ => rfl
  have g1 := gl 1 "is_count" rfl
  have k1 : PySem.W.keepIn K (.ref (He.fAd K ("is_count", none))) = true := D1.kp
  obtain ⟨fd2, D2⟩ := c.def_ 2 (d := lawD "check_count" pCheckCount) rfl
  have b2 : Binds K fd2 ["number", "least"] [] := FunD.bindsN D2 fun _ _ _ _ _ _ us hl => match us, hl with | [_, _], _ => rfl
  have g2 := gl 2 "check_count" rfl
  have k2 : PySem.W.keepIn K (.ref (He.fAd K ("check_count", none))) = true := D2.kp
  obtain ⟨fd3, D3⟩ := c.def_ 3 (d := lawD "_is_pair" pIsPair) rfl
  have b3 : Binds K fd3 ["value"] [] := FunD.bindsN D3 fun _ _ _ _ _ _ us hl => match us, hl with | [_], _ => rfl
  have g3 := gl 3 "_is_pair" rfl
  have k3 : PySem.W.keepIn K (.ref (He.fAd K ("_is_pair", none))) = true := D3.kp
  obtain ⟨fd4, D4⟩ := c.def_ 4 (d := lawD "_is_full" pIsFull) rfl
  have b4 : Binds K fd4 ["table", "words"] [] := FunD.bindsN D4 fun _ _ _ _ _ _ us hl => match us, hl with | [_, _], _ => rfl
  have g4 := gl 4 "_is_full" rfl
  have k4 : PySem.W.keepIn K (.ref (He.fAd K ("_is_full", none))) = true := D4.kp
  obtain ⟨fd5, D5⟩ := c.def_ 5 (d := lawD "_is_free_of_brackets" pIsFree) rfl
  have b5 : Binds K fd5 ["table", "words"] [] := FunD.bindsN D5 fun _ _ _ _ _ _ us hl => match us, hl with | [_, _], _ => rfl
  have g5 := gl 5 "_is_free_of_brackets" rfl
  have k5 : PySem.W.keepIn K (.ref (He.fAd K ("_is_free_of_brackets", none))) = true := D5.kp
  obtain ⟨fd6, D6⟩ := c.def_ 6 (d := lawD "_is_table" pIsTable) rfl
  have b6 : Binds K fd6 ["table"] [] := FunD.bindsN D6 fun _ _ _ _ _ _ us hl => match us, hl with | [_], _ => rfl
  have g6 := gl 6 "_is_table" rfl
  have k6 : PySem.W.keepIn K (.ref (He.fAd K ("_is_table", none))) = true := D6.kp
  obtain ⟨fd7, D7⟩ := c.def_ 7 (d := mthD "Kinds" "__init__" "Kinds.__init__" kInit) rfl
  have b7 : Binds K fd7 ["self", "table"] [] := FunD.bindsN D7 fun _ _ _ _ _ _ us hl => match us, hl with | [_, _], _ => rfl
  obtain ⟨fd8, D8⟩ := c.def_ 8 (d := mthD "Kinds" "table" "Kinds.table" kTable) rfl
  have b8 : Binds K fd8 ["self"] [] := FunD.bindsN D8 fun _ _ _ _ _ _ us hl => match us, hl with | [_], _ => rfl
  obtain ⟨fd9, D9⟩ := c.def_ 9 (d := mthD "Kinds" "words" "Kinds.words" kWords) rfl
  have b9 : Binds K fd9 ["self"] [] := FunD.bindsN D9 fun _ _ _ _ _ _ us hl => match us, hl with | [_], _ => rfl
  obtain ⟨fd10, D10⟩ := c.def_ 10 (d := lawD "is_kind" pIsKind) rfl
  have b10 : Binds K fd10 ["kinds", "value"] [] := FunD.bindsN D10 fun _ _ _ _ _ _ us hl => match us, hl with | [_, _], _ => rfl
  have g10 := gl 7 "is_kind" rfl
  have k10 : PySem.W.keepIn K (.ref (He.fAd K ("is_kind", none))) = true := D10.kp
  obtain ⟨fd11, D11⟩ := c.def_ 11 (d := lawD "check_kind" pCheckKind) rfl
  have b11 : Binds K fd11 ["kinds", "kind"] [] := FunD.bindsN D11 fun _ _ _ _ _ _ us hl => match us, hl with | [_, _], _ => rfl
  have g11 := gl 8 "check_kind" rfl
  have k11 : PySem.W.keepIn K (.ref (He.fAd K ("check_kind", none))) = true := D11.kp
  obtain ⟨fd12, D12⟩ := c.def_ 12 (d := lawD "check_kinds" pCheckKinds) rfl
  have b12 : Binds K fd12 ["kinds"] [] := FunD.bindsN D12 fun _ _ _ _ _ _ us hl => match us, hl with | [_], _ => rfl
  have g12 := gl 9 "check_kinds" rfl
  have k12 : PySem.W.keepIn K (.ref (He.fAd K ("check_kinds", none))) = true := D12.kp
  obtain ⟨fd13, D13⟩ := c.def_ 13 (d := mthD "Kinds" "put" "Kinds.put" kPut) rfl
  have b13 : Binds K fd13 ["self", "one", "other"] [] := FunD.bindsN D13 fun _ _ _ _ _ _ us hl => match us, hl with | [_, _, _], _ => rfl
  obtain ⟨fd14, D14⟩ := c.def_ 14 (d := mthD "Kinds" "__eq__" "Kinds.__eq__" kEq) rfl
  have b14 : Binds K fd14 ["self", "other"] [] := FunD.bindsN D14 fun _ _ _ _ _ _ us hl => match us, hl with | [_, _], _ => rfl
  obtain ⟨fd15, D15⟩ := c.def_ 15 (d := lawD "is_list_of_kinds" pIsKinds) rfl
  have b15 : Binds K fd15 ["kinds", "value"] [] := FunD.bindsN D15 fun _ _ _ _ _ _ us hl => match us, hl with | [_, _], _ => rfl
  have g15 := gl 10 "is_list_of_kinds" rfl
  have k15 : PySem.W.keepIn K (.ref (He.fAd K ("is_list_of_kinds", none))) = true := D15.kp
  obtain ⟨fd16, D16⟩ := c.def_ 16 (d := lawD "own_squares" pOwnSquares) rfl
  have b16 : Binds K fd16 ["kinds"] [] := FunD.bindsN D16 fun _ _ _ _ _ _ us hl => match us, hl with | [_], _ => rfl
  have g16 := gl 11 "own_squares" rfl
  have k16 : PySem.W.keepIn K (.ref (He.fAd K ("own_squares", none))) = true := D16.kp
  obtain ⟨fd17, D17⟩ := c.def_ 17 (d := lawD "stretch_kinds" pStretch) rfl
  have b17 : Binds K fd17 ["kinds", "row"] [] := FunD.bindsN D17 fun _ _ _ _ _ _ us hl => match us, hl with | [_, _], _ => rfl
  have g17 := gl 12 "stretch_kinds" rfl
  have k17 : PySem.W.keepIn K (.ref (He.fAd K ("stretch_kinds", none))) = true := D17.kp
  obtain ⟨fd18, D18⟩ := c.def_ 18 (d := lawD "all_rows" sAlr) rfl
  have b18 : Binds K fd18 ["kinds", "number"] [] := FunD.bindsN D18 fun _ _ _ _ _ _ us hl => match us, hl with | [_, _], _ => rfl
  have g18 := gl 13 "all_rows" rfl
  have k18 : PySem.W.keepIn K (.ref (He.fAd K ("all_rows", none))) = true := D18.kp
  obtain ⟨fd19, D19⟩ := c.def_ 19 (d := lawD "_longest_points" sLp) rfl
  have b19 : Binds K fd19 ["stretches", "many", "kind"] [] := FunD.bindsN D19 fun _ _ _ _ _ _ us hl => match us, hl with | [_, _, _], _ => rfl
  have g19 := gl 14 "_longest_points" rfl
  have k19 : PySem.W.keepIn K (.ref (He.fAd K ("_longest_points", none))) = true := D19.kp
  obtain ⟨fd20, D20⟩ := c.def_ 20 (d := lawD "_longest_by_kind" sLbk) rfl
  have b20 : Binds K fd20 ["kinds", "row"] [] := FunD.bindsN D20 fun _ _ _ _ _ _ us hl => match us, hl with | [_, _], _ => rfl
  have g20 := gl 15 "_longest_by_kind" rfl
  have k20 : PySem.W.keepIn K (.ref (He.fAd K ("_longest_by_kind", none))) = true := D20.kp
  obtain ⟨fd21, D21⟩ := c.def_ 21 (d := lawD "_most_in" sMost) rfl
  have b21 : Binds K fd21 ["kinds", "row"] [] := FunD.bindsN D21 fun _ _ _ _ _ _ us hl => match us, hl with | [_, _], _ => rfl
  have g21 := gl 16 "_most_in" rfl
  have k21 : PySem.W.keepIn K (.ref (He.fAd K ("_most_in", none))) = true := D21.kp
  obtain ⟨fd22, D22⟩ := c.def_ 22 (d := lawD "scarce_row" sScarce) rfl
  have b22 : Binds K fd22 ["kinds", "number"] [] := FunD.bindsN D22 fun _ _ _ _ _ _ us hl => match us, hl with | [_, _], _ => rfl
  have g22 := gl 17 "scarce_row" rfl
  have k22 : PySem.W.keepIn K (.ref (He.fAd K ("scarce_row", none))) = true := D22.kp
  obtain ⟨fd23, D23⟩ := c.def_ 23 (d := lawD "sure_stretches" sSure) rfl
  have b23 : Binds K fd23 ["kinds", "number"] [] := FunD.bindsN D23 fun _ _ _ _ _ _ us hl => match us, hl with | [_, _], _ => rfl
  have g23 := gl 18 "sure_stretches" rfl
  have k23 : PySem.W.keepIn K (.ref (He.fAd K ("sure_stretches", none))) = true := D23.kp
  obtain ⟨fd24, D24⟩ := c.def_ 24 (d := lawD "is_scarce_row" sIsSc) rfl
  have b24 : Binds K fd24 ["kinds", "number", "value"] [] := FunD.bindsN D24 fun _ _ _ _ _ _ us hl => match us, hl with | [_, _, _], _ => rfl
  have g24 := gl 19 "is_scarce_row" rfl
  have k24 : PySem.W.keepIn K (.ref (He.fAd K ("is_scarce_row", none))) = true := D24.kp
  obtain ⟨fd25, D25⟩ := c.def_ 25 (d := lawD "_law_purse" sPurse) rfl
  have b25 : Binds K fd25 ["_law_script", "_law_at"] [] := FunD.bindsN D25 fun _ _ _ _ _ _ us hl => match us, hl with | [_, _], _ => rfl
  have g25 := gl 20 "_law_purse" rfl
  have k25 : PySem.W.keepIn K (.ref (He.fAd K ("_law_purse", none))) = true := D25.kp
  obtain ⟨fd26, D26⟩ := c.def_ 26 (d := lawD "_law_mixed" sMixed) rfl
  have b26 : Binds K fd26 ["_law_seed", "_law_spin", "_law_at"] [] := FunD.bindsN D26 fun _ _ _ _ _ _ us hl => match us, hl with | [_, _, _], _ => rfl
  have g26 := gl 21 "_law_mixed" rfl
  have k26 : PySem.W.keepIn K (.ref (He.fAd K ("_law_mixed", none))) = true := D26.kp
  obtain ⟨fd27, D27⟩ := c.def_ 27 (d := lawD "_law_draw" sDraw) rfl
  have b27 : Binds K fd27 ["_law_purse_here", "_law_many"] [] := FunD.bindsN D27 fun _ _ _ _ _ _ us hl => match us, hl with | [_, _], _ => rfl
  have g27 := gl 22 "_law_draw" rfl
  have k27 : PySem.W.keepIn K (.ref (He.fAd K ("_law_draw", none))) = true := D27.kp
  obtain ⟨fd28, D28⟩ := c.def_ 28 (d := lawD "_law_purses" sPurses) rfl
  have b28 : Binds K fd28 ["_law_script", "_law_few"] [] := FunD.bindsN D28 fun _ _ _ _ _ _ us hl => match us, hl with | [_, _], _ => rfl
  have g28 := gl 23 "_law_purses" rfl
  have k28 : PySem.W.keepIn K (.ref (He.fAd K ("_law_purses", none))) = true := D28.kp
  obtain ⟨fd29, D29⟩ := c.def_ 29 (d := lawD "_law_shuffled" sShuffled) rfl
  have b29 : Binds K fd29 ["_law_purse_here", "_law_some"] [] := FunD.bindsN D29 fun _ _ _ _ _ _ us hl => match us, hl with | [_, _], _ => rfl
  have g29 := gl 24 "_law_shuffled" rfl
  have k29 : PySem.W.keepIn K (.ref (He.fAd K ("_law_shuffled", none))) = true := D29.kp
  obtain ⟨fd30, D30⟩ := c.def_ 30 (d := lawD "_law_exact" sExact) rfl
  have b30 : Binds K fd30 ["_law_mine", "_law_theirs"] [] := FunD.bindsN D30 fun _ _ _ _ _ _ us hl => match us, hl with | [_, _], _ => rfl
  have g30 := gl 25 "_law_exact" rfl
  have k30 : PySem.W.keepIn K (.ref (He.fAd K ("_law_exact", none))) = true := D30.kp
  obtain ⟨fd31, D31⟩ := c.def_ 31 (d := lawD "_law_word" sWord) rfl
  have b31 : Binds K fd31 ["_law_purse_here"] [] := FunD.bindsN D31 fun _ _ _ _ _ _ us hl => match us, hl with | [_], _ => rfl
  have g31 := gl 26 "_law_word" rfl
  have k31 : PySem.W.keepIn K (.ref (He.fAd K ("_law_word", none))) = true := D31.kp
  obtain ⟨fd32, D32⟩ := c.def_ 32 (d := lawD "_law_words" sWords) rfl
  have b32 : Binds K fd32 ["_law_purse_here", "_law_many"] [] := FunD.bindsN D32 fun _ _ _ _ _ _ us hl => match us, hl with | [_, _], _ => rfl
  have g32 := gl 27 "_law_words" rfl
  have k32 : PySem.W.keepIn K (.ref (He.fAd K ("_law_words", none))) = true := D32.kp
  obtain ⟨fd33, D33⟩ := c.def_ 33 (d := lawD "_law_plain_table" sPlain) rfl
  have b33 : Binds K fd33 ["_law_way", "_law_many"] [] := FunD.bindsN D33 fun _ _ _ _ _ _ us hl => match us, hl with | [_, _], _ => rfl
  have g33 := gl 28 "_law_plain_table" rfl
  have k33 : PySem.W.keepIn K (.ref (He.fAd K ("_law_plain_table", none))) = true := D33.kp
  obtain ⟨fd34, D34⟩ := c.def_ 34 (d := lawD "_law_wide_table" sWide) rfl
  have b34 : Binds K fd34 ["_law_told", "_law_many", "_law_way"] [] := FunD.bindsN D34 fun _ _ _ _ _ _ us hl => match us, hl with | [_, _, _], _ => rfl
  have g34 := gl 29 "_law_wide_table" rfl
  have k34 : PySem.W.keepIn K (.ref (He.fAd K ("_law_wide_table", none))) = true := D34.kp
  obtain ⟨fd35, D35⟩ := c.def_ 35 (d := lawD "_law_twofold_table" sTwofold) rfl
  have b35 : Binds K fd35 ["_law_one", "_law_other"] [] := FunD.bindsN D35 fun _ _ _ _ _ _ us hl => match us, hl with | [_, _], _ => rfl
  have g35 := gl 30 "_law_twofold_table" rfl
  have k35 : PySem.W.keepIn K (.ref (He.fAd K ("_law_twofold_table", none))) = true := D35.kp
  obtain ⟨fd36, D36⟩ := c.def_ 36 (d := lawD "_law_twin_table" sTwin) rfl
  have b36 : Binds K fd36 ["_law_told", "_law_many", "_law_twin"] [] := FunD.bindsN D36 fun _ _ _ _ _ _ us hl => match us, hl with | [_, _, _], _ => rfl
  have g36 := gl 31 "_law_twin_table" rfl
  have k36 : PySem.W.keepIn K (.ref (He.fAd K ("_law_twin_table", none))) = true := D36.kp
  obtain ⟨fd37, D37⟩ := c.def_ 37 (d := lawD "_law_leading_table" sLeading) rfl
  have b37 : Binds K fd37 ["_law_told", "_law_many"] [] := FunD.bindsN D37 fun _ _ _ _ _ _ us hl => match us, hl with | [_, _], _ => rfl
  have g37 := gl 32 "_law_leading_table" rfl
  have k37 : PySem.W.keepIn K (.ref (He.fAd K ("_law_leading_table", none))) = true := D37.kp
  obtain ⟨fd38, D38⟩ := c.def_ 38 (d := lawD "_law_cyclic_table" sCyclic) rfl
  have b38 : Binds K fd38 ["_law_many", "_law_lead"] [] := FunD.bindsN D38 fun _ _ _ _ _ _ us hl => match us, hl with | [_, _], _ => rfl
  have g38 := gl 33 "_law_cyclic_table" rfl
  have k38 : PySem.W.keepIn K (.ref (He.fAd K ("_law_cyclic_table", none))) = true := D38.kp
  obtain ⟨fd39, D39⟩ := c.def_ 39 (d := lawD "_law_any_table" sAny) rfl
  have b39 : Binds K fd39 ["_law_purse_here", "_law_many"] [] := FunD.bindsN D39 fun _ _ _ _ _ _ us hl => match us, hl with | [_, _], _ => rfl
  have g39 := gl 34 "_law_any_table" rfl
  have k39 : PySem.W.keepIn K (.ref (He.fAd K ("_law_any_table", none))) = true := D39.kp
  obtain ⟨fd40, D40⟩ := c.def_ 40 (d := lawD "_law_table" sTable) rfl
  have b40 : Binds K fd40 ["_law_purse_here", "_law_most_here"] [] := FunD.bindsN D40 fun _ _ _ _ _ _ us hl => match us, hl with | [_, _], _ => rfl
  have g40 := gl 35 "_law_table" rfl
  have k40 : PySem.W.keepIn K (.ref (He.fAd K ("_law_table", none))) = true := D40.kp
  obtain ⟨fd41, D41⟩ := c.def_ 41 (d := lawD "_law_kinds_of" sKindsOf) rfl
  have b41 : Binds K fd41 ["_law_table_here"] [] := FunD.bindsN D41 fun _ _ _ _ _ _ us hl => match us, hl with | [_], _ => rfl
  have g41 := gl 36 "_law_kinds_of" rfl
  have k41 : PySem.W.keepIn K (.ref (He.fAd K ("_law_kinds_of", none))) = true := D41.kp
  obtain ⟨fd42, D42⟩ := c.def_ 42 (d := lawD "_law_squares" sSquares) rfl
  have b42 : Binds K fd42 ["_law_table_here"] [] := FunD.bindsN D42 fun _ _ _ _ _ _ us hl => match us, hl with | [_], _ => rfl
  have g42 := gl 37 "_law_squares" rfl
  have k42 : PySem.W.keepIn K (.ref (He.fAd K ("_law_squares", none))) = true := D42.kp
  obtain ⟨fd43, D43⟩ := c.def_ 43 (d := lawD "_law_made_kinds" sMadeKinds) rfl
  have b43 : Binds K fd43 ["_law_table_here"] [] := FunD.bindsN D43 fun _ _ _ _ _ _ us hl => match us, hl with | [_], _ => rfl
  have g43 := gl 38 "_law_made_kinds" rfl
  have k43 : PySem.W.keepIn K (.ref (He.fAd K ("_law_made_kinds", none))) = true := D43.kp
  obtain ⟨fd44, D44⟩ := c.def_ 44 (d := lawD "_law_together" sTog) rfl
  have b44 : Binds K fd44 ["_law_table_here", "_law_row"] [] := FunD.bindsN D44 fun _ _ _ _ _ _ us hl => match us, hl with | [_, _], _ => rfl
  have g44 := gl 39 "_law_together" rfl
  have k44 : PySem.W.keepIn K (.ref (He.fAd K ("_law_together", none))) = true := D44.kp
  obtain ⟨fd45, D45⟩ := c.def_ 45 (d := lawD "_law_most" sMoL) rfl
  have b45 : Binds K fd45 ["_law_table_here", "_law_row"] [] := FunD.bindsN D45 fun _ _ _ _ _ _ us hl => match us, hl with | [_, _], _ => rfl
  have g45 := gl 40 "_law_most" rfl
  have k45 : PySem.W.keepIn K (.ref (He.fAd K ("_law_most", none))) = true := D45.kp
  obtain ⟨fd46, D46⟩ := c.def_ 46 (d := lawD "_law_rows" sRwL) rfl
  have b46 : Binds K fd46 ["_law_kinds", "_law_number"] [] := FunD.bindsN D46 fun _ _ _ _ _ _ us hl => match us, hl with | [_, _], _ => rfl
  have g46 := gl 41 "_law_rows" rfl
  have k46 : PySem.W.keepIn K (.ref (He.fAd K ("_law_rows", none))) = true := D46.kp
  obtain ⟨fd47, D47⟩ := c.def_ 47 (d := lawD "_law_number_right" sNR) rfl
  have b47 : Binds K fd47 ["_law_purse_here", "_law_table_here", "_law_number"] [] := FunD.bindsN D47 fun _ _ _ _ _ _ us hl => match us, hl with | [_, _, _], _ => rfl
  have g47 := gl 42 "_law_number_right" rfl
  have k47 : PySem.W.keepIn K (.ref (He.fAd K ("_law_number_right", none))) = true := D47.kp
  obtain ⟨fd48, D48⟩ := c.def_ 48 (d := lawD "law" sLawF) rfl
  have bL := FunD.bindsA (ps := ["_law_script"]) D48 fun _ _ _ _ _ _ us hl => match us, hl with | [_], _ => rfl
  have e := hfa.symm.trans (gl 43 "law" rfl)
  cases e
  refine ⟨fd48, fun s v => bL s [v] rfl, fun base iB nB tB => ?_⟩
  have TBs := tB (He.cT K ("scarce_row", none)) (List.mem_map.mpr ⟨_, List.mem_cons_self, rfl⟩)
  have iw : Cee P w K mg base 1 "is_word" ["value"] spIsWord := ⟨_, fd0, ok_isWord (fun_of D0) B Z, g0, k0, b0⟩
  have ic : Cee P w K mg base 1 "is_count" ["value"] spIsCount := ⟨_, fd1, ok_isCount (fun_of D1) B Z, g1, k1, b1⟩
  have cc : Cee P w K mg base 2 "check_count" ["number", "least"] spCheckCount := ⟨_, fd2, ok_checkCount (fun_of D2) ic, g2, k2, b2⟩
  have ip : Cee P w K mg base 2 "_is_pair" ["value"] spIsPair := ⟨_, fd3, ok_isPair (fun_of D3) B Z iw, g3, k3, b3⟩
  have fu : Cee P w K mg base 1 "_is_full" ["table", "words"] spIsFull := ⟨_, fd4, ok_isFull (fun_of D4) B Z, g4, k4, b4⟩
  have fr_ : Cee P w K mg base 1 "_is_free_of_brackets" ["table", "words"] spIsFull := ⟨_, fd5, ok_isFree (fun_of D5) B Z, g5, k5, b5⟩
  have it : Cee P w K mg base 3 "_is_table" ["table"] spIsTable := ⟨_, fd6, ok_isTable (fun_of D6) B Z ⟨ip, fu, fr_⟩, g6, k6, b6⟩
  have NK0 : FnOk P w K mg base CX0 4 (He.fAd K ("Kinds", some "__init__")) fd7 ["self", "table"] (spKInit (kC K)) := ok_kinit (fun_of D7) T Z it
  have NK : KMk P w K mg base (kC K) := ⟨_, fd7, MK, NK0, b7⟩
  have kta : Mee P w K mg base (kC K) 1 "table" ["self"] (spKTable (kC K)) := ⟨_, fd8, He.meth_ok (c.fact 48 (f := .meth "Kinds" "table") rfl), ok_ktable (fun_of D8) T, b8⟩
  have kwo : Mee P w K mg base (kC K) 1 "words" ["self"] (spKWords (kC K)) := ⟨_, fd9, He.meth_ok (c.fact 49 (f := .meth "Kinds" "words") rfl), ok_kwords (fun_of D9) T Z, b9⟩
  have ik : Cee P w K mg base 2 "is_kind" ["kinds", "value"] (spIsKind (kC K)) := ⟨_, fd10, ok_isKind (fun_of D10) T Z kwo, g10, k10, b10⟩
  have chd : Cee P w K mg base 3 "check_kind" ["kinds", "kind"] (spCheckKind (kC K)) := ⟨_, fd11, ok_checkKind (fun_of D11) ik, g11, k11, b11⟩
  have chk : Cee P w K mg base 1 "check_kinds" ["kinds"] (spCheckKinds (kC K)) := ⟨_, fd12, ok_checkKinds (fun_of D12) T Z, g12, k12, b12⟩
  have kpu : Mee P w K mg base (kC K) 4 "put" ["self", "one", "other"] (spKPut (kC K)) := ⟨_, fd13, He.meth_ok (c.fact 50 (f := .meth "Kinds" "put") rfl), ok_kput (fun_of D13) T chd, b13⟩
  have EQ : OwQ.EqC P w K mg base 1 (kC K) (spKEq K (kC K)) := ⟨⟨_, fd14, _, ok_keq (fun_of D14) T Z, He.eqO_ok m6, m7, b14⟩, He.eqO_ok m8, m4⟩
  have iks : Cee P w K mg base 3 "is_list_of_kinds" ["kinds", "value"] (spIsKinds (kC K)) := ⟨_, fd15, ok_isKinds (fun_of D15) Z ik, g15, k15, b15⟩
  have PC : PutC P w K mg base (kC K) := ⟨iks, chk, chd, cc, kta, kwo, kpu⟩
  have osq : Cee P w K mg base 5 "own_squares" ["kinds"] (spOwnSq (kC K)) := ⟨_, fd16, ok_ownSq (fun_of D16) T PC, g16, k16, b16⟩
  have stk : Cee P w K mg base 2 "stretch_kinds" ["kinds", "row"] (spStretch (kC K)) := ⟨_, fd17, ok_stretch (fun_of D17) T B kta, g17, k17, b17⟩
  have alr_ : Cee P w K mg base 2 "all_rows" ["kinds", "number"] (spAlr (kC K)) := ⟨_, fd18, ok_alr (fun_of D18) T B kwo, g18, k18, b18⟩
  have lp_ : Cee P w K mg base 1 "_longest_points" ["stretches", "many", "kind"] spLp := ⟨_, fd19, ok_lp (fun_of D19) B, g19, k19, b19⟩
  have lbk : Cee P w K mg base 6 "_longest_by_kind" ["kinds", "row"] (spLbk (kC K)) := ⟨_, fd20, ok_lbk (fun_of D20) B ⟨stk, osq, lp_⟩, g20, k20, b20⟩
  have mst : Cee P w K mg base 7 "_most_in" ["kinds", "row"] (spMost (kC K)) := ⟨_, fd21, ok_most (fun_of D21) B lbk, g21, k21, b21⟩
  have sca : Cee P w K mg base 10 "scarce_row" ["kinds", "number"] (spScarce K (kC K)) := ⟨_, fd22, ok_scarce (fun_of D22) B ⟨chk, cc, alr_, mst⟩ TBs, g22, k22, b22⟩
  have sur : Cee P w K mg base 11 "sure_stretches" ["kinds", "number"] (spSure K (kC K)) := ⟨_, fd23, ok_sure (fun_of D23) ⟨sca, mst⟩, g23, k23, b23⟩
  have isc : Cee P w K mg base 12 "is_scarce_row" ["kinds", "number", "value"] (spIsSc K (kC K)) := ⟨_, fd24, ok_isSc (fun_of D24) B ⟨chk, cc, iks, mst, sur⟩, g24, k24, b24⟩
  have pu0 : Cee P w K mg base 1 "_law_purse" ["_law_script", "_law_at"] (spPurse K) := ⟨_, fd25, ok_purse (fun_of D25) B, g25, k25, b25⟩
  have mi : Cee P w K mg base 1 "_law_mixed" ["_law_seed", "_law_spin", "_law_at"] spMixed := ⟨_, fd26, ok_mixed (fun_of D26) B, g26, k26, b26⟩
  have dr : Cee P w K mg base 2 "_law_draw" ["_law_purse_here", "_law_many"] spDraw := ⟨_, fd27, ok_draw (fun_of D27) B mi, g27, k27, b27⟩
  have pus : Cee P w K mg base 2 "_law_purses" ["_law_script", "_law_few"] (spPurses K) := ⟨_, fd28, ok_purses (fun_of D28) B pu0, g28, k28, b28⟩
  have shu : Cee P w K mg base 3 "_law_shuffled" ["_law_purse_here", "_law_some"] spShuf := ⟨_, fd29, ok_shuf (fun_of D29) B dr, g29, k29, b29⟩
  have exa : Cee P w K mg base 7 "_law_exact" ["_law_mine", "_law_theirs"] (spExact 6) := ⟨_, fd30, ok_exact (fun_of D30) B Z hz g30 k30 b30 6, g30, k30, b30⟩
  have wo : Cee P w K mg base 3 "_law_word" ["_law_purse_here"] spWord := ⟨_, fd31, ok_word (fun_of D31) B dr, g31, k31, b31⟩
  have wos : Cee P w K mg base 4 "_law_words" ["_law_purse_here", "_law_many"] spWords := ⟨_, fd32, ok_words (fun_of D32) B Z.list dr wo, g32, k32, b32⟩
  have tpl : Cee P w K mg base 1 "_law_plain_table" ["_law_way", "_law_many"] spPlain := ⟨_, fd33, ok_plain (fun_of D33) B, g33, k33, b33⟩
  have twi : Cee P w K mg base 1 "_law_wide_table" ["_law_told", "_law_many", "_law_way"] spWide := ⟨_, fd34, ok_wide (fun_of D34) B Z.dict, g34, k34, b34⟩
  have ttw : Cee P w K mg base 1 "_law_twofold_table" ["_law_one", "_law_other"] spTwo := ⟨_, fd35, ok_two (fun_of D35) B, g35, k35, b35⟩
  have ttn : Cee P w K mg base 1 "_law_twin_table" ["_law_told", "_law_many", "_law_twin"] spTwin := ⟨_, fd36, ok_twin (fun_of D36) B Z.list, g36, k36, b36⟩
  have tle : Cee P w K mg base 1 "_law_leading_table" ["_law_told", "_law_many"] spLead := ⟨_, fd37, ok_lead (fun_of D37) B Z.dict, g37, k37, b37⟩
  have tcy : Cee P w K mg base 1 "_law_cyclic_table" ["_law_many", "_law_lead"] spCyc := ⟨_, fd38, ok_cyc (fun_of D38) B, g38, k38, b38⟩
  have tan : Cee P w K mg base 3 "_law_any_table" ["_law_purse_here", "_law_many"] spAnyT := ⟨_, fd39, ok_anyT (fun_of D39) B han dr tcy, g39, k39, b39⟩
  have tab : Cee P w K mg base 5 "_law_table" ["_law_purse_here", "_law_most_here"] spTable := ⟨_, fd40, ok_table (fun_of D40) B Z.dict Z.sorted ⟨dr, tpl, twi, ttw, ttn, tle, tan, wos⟩, g40, k40, b40⟩
  have kof : Cee P w K mg base 1 "_law_kinds_of" ["_law_table_here"] spKindsOf := ⟨_, fd41, ok_kindsOf (fun_of D41) Z, g41, k41, b41⟩
  have sqr : Cee P w K mg base 2 "_law_squares" ["_law_table_here"] spSquares := ⟨_, fd42, ok_squares (fun_of D42) kof, g42, k42, b42⟩
  have mkd : Cee P w K mg base 6 "_law_made_kinds" ["_law_table_here"] (spMadeKinds (kC K)) := ⟨_, fd43, ok_madeKinds (fun_of D43) T Z NK, g43, k43, b43⟩
  have tog : Cee P w K mg base 1 "_law_together" ["_law_table_here", "_law_row"] spTog := ⟨_, fd44, ok_tog (fun_of D44), g44, k44, b44⟩
  have mol : Cee P w K mg base 3 "_law_most" ["_law_table_here", "_law_row"] spMostL := ⟨_, fd45, ok_moL (fun_of D45) B ⟨sqr, tog⟩, g45, k45, b45⟩
  have rwl : Cee P w K mg base 1 "_law_rows" ["_law_kinds", "_law_number"] spRowsL := ⟨_, fd46, ok_rwL (fun_of D46) B, g46, k46, b46⟩
  have nr_ : Cee P w K mg base 13 "_law_number_right" ["_law_purse_here", "_law_table_here", "_law_number"] (spNR K) := ⟨_, fd47, ok_nR (fun_of D47) B Z ⟨mkd, kof, rwl, mol, sca, sur, isc, exa, shu⟩, g47, k47, b47⟩
  exact ok_lawF (fun_of D48) B ⟨pus, tab, dr, kof, mkd, nr_, isc⟩
end KT
open PySem PySem.W PySem.Calls PyProof.Rows
set_option maxRecDepth 100000 in
set_option maxHeartbeats 0 in
theorem PySem.Challenge.cw_kindtwice_k10_whole_sure_stretches_holds : PySem.Challenge.rw_kindtwice_k10_whole_sure_stretches.Holds := by
  w_on; o_law
  refine HandSHeadRun.head_any (r := OpenLaw.row PySem.Challenge.rw_kindtwice_k10_whole_sure_stretches) (q := view (OpenLaw.row PySem.Challenge.rw_kindtwice_k10_whole_sure_stretches).prog [57]) (H := KT.hk) (ob := KT.ob) (M := 60000) (loose := KT.loose) (d := HandSHeadRun.topDef (OpenLaw.row PySem.Challenge.rw_kindtwice_k10_whole_sure_stretches).prog 57) (kwd := []) KT.ob_eq
    (by kernel_rfl) (fun s => by kernel_rfl) KT.run (by kernel_rfl) (by kernel_rfl) (by kernel_rfl) (by rfl) (by first | assumption | decide +kernel) (by decide +kernel) ⟨rfl, rfl, rfl, rfl, rfl, by decide +kernel⟩ ?hw ?hc
  case hw => w_witness2
  case hc =>
    refine LamX.walk_ofTsE (l := PySem.Challenge.rw_kindtwice_k10_whole_sure_stretches) (n := 63) (k := 14) (x := "_law_script") (CX := fun _ => L2.CX0) rfl (by decide) (by kernel_rfl) ⟨rfl, by decide, by decide⟩ ?F (fun _ _ _ _ _ z => z)
    intro w mg fa h Y G hmg0
    obtain ⟨K, KX, c, m, tx⟩ := Y
    have hmg : mg ("law" : PySem.Str) = some (.ref fa) := by
      have e : (HandSHeadRun.topDef (OpenLaw.row PySem.Challenge.rw_kindtwice_k10_whole_sure_stretches).prog 57).name = ("law" : PySem.Str) := by kernel_rfl
      rw [← e]
      exact hmg0
    obtain ⟨fd, hb, hF⟩ := KT.facts (P := (PySem.Challenge.rw_kindtwice_k10_whole_sure_stretches).prog) (w := w) KX G hmg c m
    have inT : ∀ p ∈ KT.tf.map (He.cT K), ∃ q ∈ KT.tf, p = He.cT K q := fun p hp => by
      obtain ⟨q, hq, e⟩ := List.mem_map.mp hp
      exact ⟨q, hq, e.symm⟩
    refine ⟨K, KX, fd, KT.tf.map (He.cT K), KT.spLaw K, fun p hp => ?_, fun p hp => ?_, fun p hp => ?_, hb, fun H a ns hl _ hH hS => ⟨a, ns, rfl, hS, hl, KT.tabs0 hH, fun _ => rfl⟩, hF⟩
    · obtain ⟨q, hq, rfl⟩ := inT p hp
      exact tx.empty q hq
    · obtain ⟨q, hq, rfl⟩ := inT p hp
      exact tx.out q hq
    · obtain ⟨q, hq, rfl⟩ := inT p hp
      exact PySem.W.codeHd_of_K KX (tx.hd q hq)
#print axioms PySem.Challenge.cw_kindtwice_k10_whole_sure_stretches_holds
