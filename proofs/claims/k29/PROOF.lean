import PyProof.Rows.All
import Wide.All
import OpenK.AllK
import Wide.FinOn
import KE.KStateDown
import HandS.Head0
import HandS.Head1
import HandS.Head2
import HandS.HeadEnd
import HandS.HeadHook1
import HandS.HeadHook2
import HandS.ForMost
import HandS.DictComp
import HandS.DictTup
import HandS.TupLen
import HandS.Conv
import KE.KDictPairs
import KE.KDictZip
import KE.KDictCopyH
import KE.KDictDisplayH
import KE.SortData
import KE.KEqDict
import HandS.SetBool
import HandS.Walk
import HandS.Set
import PyProof.Rows.SortShellAny
import PyProof.StrBlock2
import PyProof.ListStr
import KE.KMulAny
import HandS.Wide
import HandS.WideBits
import HandS.Defaults
import HandS.Style
import HandS.More
import HandS.Text
import HandS.IsInst
import HandS.Zip
import HandS.OwnEq
import HandS.MakeKwOnly
import PyProof.InstEq
import HandS.SetFor
import HandS.ListItems
import KE.KDictList
import HandS.RevRange
import HandS.WordsDict
import HandS.NoneIn
import HandS.Finally
import HandS.DictEq
import HandS.ListEq
import PySem.Challenge.RW_kindtwice_k29_whole_stores_and_both
set_option Elab.async false
set_option maxRecDepth 100000
namespace KT
open PySem L2 PyProof.Rows
def top (i : Nat) : Stmt := PySem.Challenge.pw_kindtwice_k29_whole_stores_and_both.main.body.getD i (.Pass ⟨0, 0, 0, 0⟩)
abbrev sPurse : Stmt := top 24
abbrev sMixed : Stmt := top 25
abbrev sDraw : Stmt := top 26
abbrev sPurses : Stmt := top 27
abbrev sOneOf : Stmt := top 28
abbrev sWord : Stmt := top 31
abbrev sExact : Stmt := top 30
abbrev sWords : Stmt := top 32
abbrev sPlain : Stmt := top 33
abbrev sWide : Stmt := top 34
abbrev sTwofold : Stmt := top 35
abbrev sTwin : Stmt := top 36
abbrev sLeading : Stmt := top 37
abbrev sCyclic : Stmt := top 38
abbrev sAny : Stmt := top 39
abbrev sTable : Stmt := top 40
abbrev pIsWord : Stmt := top 10
abbrev sKindsOf : Stmt := top 41
abbrev sSquares : Stmt := top 42
abbrev sLaw : Stmt := top 60
abbrev sSetting : Stmt := top 43
abbrev sLog : Stmt := top 44
abbrev pCntWords : Stmt := top 11
abbrev pLeads : Stmt := top 14
abbrev pAreMoves : Stmt := top 15
abbrev gInit : Stmt := inClass (top 13) 0
abbrev gMoves : Stmt := inClass (top 13) 1
abbrev sBehind : Stmt := top 45
abbrev gStates : Stmt := inClass (top 13) 2
abbrev gDeeds : Stmt := inClass (top 13) 3
abbrev gEq : Stmt := inClass (top 13) 4
abbrev pCheckStore : Stmt := top 16
abbrev pCheckLogS : Stmt := top 17
abbrev pLed : Stmt := top 18
abbrev pBehind : Stmt := top 19
abbrev pBehindAll : Stmt := top 20
abbrev pBothN : Stmt := top 21
abbrev pBothS : Stmt := top 22
abbrev sSame : Stmt := top 29
abbrev sNumb : Stmt := top 53
abbrev sOrd : Stmt := top 49
abbrev sLent : Stmt := top 50
abbrev sStore : Stmt := top 51
abbrev sLast : Stmt := top 47
abbrev sSpare : Stmt := top 48
abbrev sKept : Stmt := top 46
abbrev sDrawnMv : Stmt := top 54
abbrev sPaired : Stmt := top 52
abbrev sSomeMv : Stmt := top 55
abbrev sRight : Stmt := top 56
abbrev sBothR : Stmt := top 57
abbrev sLentR : Stmt := top 59
abbrev sEqR : Stmt := top 58
end KT
set_option Elab.async false
set_option linter.all false
set_option maxRecDepth 100000
set_option maxHeartbeats 0
namespace KT
open PySem PySem.Spec PyProof.Rows L2
def goC (K : PySem.W.Frag) : Addr := He.ga K "Store"
def oneB (K : PySem.W.Frag) (x : Str) : Bool :=
  He.eqO (PySem.W.findIn K (.ref (He.ga K x)) "__class__") (some (some (.builtin "object.__class__"))) && (decide (PySem.W.mroIn K (He.ga K x) (.type "object") = some true) && (decide (PySem.W.kitOne K (.ref (He.ga K x)) (.ref (He.ga K x)) = some true) &&
  (He.eqO (PySem.W.findIn K (.ref (He.ga K x)) "__eq__") (some (some (.ref (He.fAd K (x, some "__eq__"))))) && (PySem.W.isFn K (.ref (He.fAd K (x, some "__eq__"))) && (He.eqO (PySem.W.findIn K (.ref (He.ga K x)) "__ne__") (some (some (.builtin "object.__ne__"))) &&
  PySem.W.notFirst K (He.ga K x) (.ref (He.ga K x)))))))
def kitBG (K : PySem.W.Frag) : Bool := [Value.type "dict", .type "int"].all fun t => decide (PySem.W.kitOne K t (.ref (goC K)) = some false) && PySem.W.notFirst K (goC K) t
def myB (K : PySem.W.Frag) : Bool :=
  He.eqO (PySem.W.specialIn K (.builtin "object.__class__") "__get__") (some (some (.builtin "getset_descriptor.__get__"))) && (decide (PySem.W.takesIn K (.builtin "object.__class__") = some true) && (kitBG K && oneB K "Store"))
abbrev AlX : Type := He.AlD × Bool
def frX (g : Addr → Option Obj) : PySem.W.Frag := He.frG g (He.asD g 5)
def obsX (fa : List He.Fa) (fn : List He.DefD) (g : Addr → Option Obj) : AlX := (He.obsD fa fn (frX g), myB (frX g))
def hookX (fa : List He.Fa) (fn : List He.DefD) : PySem.W.Hook where
  α := AlX
  obs := fun s => obsX fa fn s.heap.get?
  val := fun _ => (He.valD fn, true)
  says := fun _ h => ∃ K : PySem.W.Frag, K.In h ∧ He.SaysD fa fn K ∧ myB K = true
  of := fun _ _ e => ⟨_, He.frG_in, congrArg Prod.fst e, congrArg Prod.snd e⟩
  keeps := fun _ _ _ ⟨K, hK, c⟩ k => ⟨K, PySem.W.Frag.In.keeps hK k, c⟩
theorem obsX_eq {fa : List He.Fa} {fn : List He.DefD} {g : Addr → Option Obj} {s : Shared} (h : ∀ a, g a = s.heap.get? a) : obsX fa fn g = (hookX fa fn).obs s := by
  have e : g = s.heap.get? := funext h
  rw [e] <;> rfl
end KT
set_option Elab.async false
set_option linter.all false
set_option maxRecDepth 100000
set_option maxHeartbeats 0
namespace KT
open PySem PySem.Spec PyProof.Rows L2
def lawD (x : Str) (st : Stmt) : He.DefD := ⟨(x, none), x, x, defArgs st, defBody st, defScope st, [], []⟩
def mthD (cls m qual : Str) (st : Stmt) : He.DefD := ⟨(cls, some m), m, qual, defArgs st, defBody st, defScope st, [], []⟩
def fn1 : List He.DefD := [lawD "is_word" pIsWord,
  lawD "counting_words" pCntWords,
  lawD "_leads_from_words" pLeads,
  lawD "_are_moves" pAreMoves,
  mthD "Store" "__init__" "Store.__init__" gInit,
  mthD "Store" "moves" "Store.moves" gMoves,
  mthD "Store" "states" "Store.states" gStates,
  mthD "Store" "deeds" "Store.deeds" gDeeds,
  mthD "Store" "__eq__" "Store.__eq__" gEq,
  lawD "check_store" pCheckStore,
  lawD "check_log_of_store" pCheckLogS,
  lawD "_led" pLed,
  lawD "behind" pBehind,
  lawD "behind_all" pBehindAll,
  lawD "both_names" pBothN,
  lawD "both_stores" pBothS,
  lawD "_law_purse" sPurse,
  lawD "_law_mixed" sMixed,
  lawD "_law_draw" sDraw,
  lawD "_law_purses" sPurses,
  lawD "_law_one_of" sOneOf,
  lawD "_law_exact" sExact,
  lawD "_law_word" sWord,
  lawD "_law_words" sWords,
  lawD "_law_plain_table" sPlain,
  lawD "_law_wide_table" sWide,
  lawD "_law_twofold_table" sTwofold,
  lawD "_law_twin_table" sTwin,
  lawD "_law_leading_table" sLeading,
  lawD "_law_cyclic_table" sCyclic,
  lawD "_law_any_table" sAny,
  lawD "_law_table" sTable,
  lawD "_law_kinds_of" sKindsOf]
def fn2 : List He.DefD := [lawD "_law_squares" sSquares,
  lawD "_law_setting" sSetting,
  lawD "_law_log" sLog,
  lawD "_law_same" sSame,
  lawD "_law_behind" sBehind,
  lawD "_law_kept_store" sKept,
  lawD "_law_last_store" sLast,
  lawD "_law_spare_words" sSpare,
  lawD "_law_ordered_moves" sOrd,
  lawD "_law_lent" sLent,
  lawD "_law_store" sStore,
  lawD "_law_numbered" sNumb,
  lawD "_law_paired" sPaired,
  lawD "_law_drawn_moves" sDrawnMv,
  lawD "_law_some_moves" sSomeMv,
  lawD "_law_right" sRight,
  lawD "_law_both_right" sBothR,
  lawD "_law_lent_right" sLentR,
  lawD "_law_equal_right" sEqR,
  lawD "law" sLaw]
def fn : List He.DefD := fn1 ++ fn2
def fa0 : List He.Fa := [.glo "is_word", .glo "counting_words", .glo "_leads_from_words", .glo "_are_moves", .glo "check_store", .glo "check_log_of_store", .glo "_led", .glo "behind", .glo "behind_all", .glo "both_names", .glo "both_stores", .glo "_law_purse", .glo "_law_mixed", .glo "_law_draw", .glo "_law_purses", .glo "_law_one_of", .glo "_law_exact", .glo "_law_word", .glo "_law_words", .glo "_law_plain_table", .glo "_law_wide_table", .glo "_law_twofold_table", .glo "_law_twin_table", .glo "_law_leading_table", .glo "_law_cyclic_table", .glo "_law_any_table", .glo "_law_table", .glo "_law_kinds_of", .glo "_law_squares", .glo "_law_setting"]
def fa1 : List He.Fa := [.glo "_law_log", .glo "_law_same", .glo "_law_behind", .glo "_law_kept_store", .glo "_law_last_store", .glo "_law_spare_words", .glo "_law_ordered_moves", .glo "_law_lent", .glo "_law_store", .glo "_law_numbered", .glo "_law_paired", .glo "_law_drawn_moves", .glo "_law_some_moves", .glo "_law_right", .glo "_law_both_right", .glo "_law_lent_right", .glo "_law_equal_right", .glo "law", .str "LETTERS" "abcdefghijklmnopqrstuvwxyz", .int "LONGEST_WORD" 8, .free "int", .free "max", .free "min", .free "sum", .free "len", .free "range", .free "isinstance", .free "all", .free "sorted", .free "str"]
def fa2 : List He.Fa := [.free "bool", .free "tuple", .free "list", .free "dict", .free "zip", .free "any", .free "set", .free "reversed", .free "enumerate", .glo "Store", .cls "Store", .noat "Store" "_moves", .mkr "Store", .meth "Store" "moves", .meth "Store" "states", .meth "Store" "deeds"]
def fa : List He.Fa := fa0 ++ fa1 ++ fa2
abbrev R : PySem.W.OpenRow := PySem.W.OpenLaw.row PySem.Challenge.rw_kindtwice_k29_whole_stores_and_both
abbrev hk : PySem.W.Hook := hookX fa fn
def ob (s : PySem.W.SharedT) : AlX := obsX fa fn (HandSHeadRun.getT s)
theorem ob_eq (s : PySem.W.SharedT) : ob s = hk.obs s.abs := obsX_eq (HandSHeadRun.getT_eq s)
def loose0 : List Str := ["TwiceError", "InvalidLog", "InvalidMoves", "InvalidStore", "InvalidState", "Unlike", "LETTERS", "LONGEST_WORD", "is_word", "counting_words", "Store", "_leads_from_words", "_are_moves", "check_store", "check_log_of_store", "_led"]
def loose1 : List Str := ["behind", "behind_all", "both_names", "both_stores", "_law_purse", "_law_mixed", "_law_draw", "_law_purses", "_law_one_of", "_law_same", "_law_exact", "_law_word", "_law_words", "_law_plain_table", "_law_wide_table", "_law_twofold_table"]
def loose2 : List Str := ["_law_twin_table", "_law_leading_table", "_law_cyclic_table", "_law_any_table", "_law_table", "_law_kinds_of", "_law_squares", "_law_setting", "_law_log", "_law_behind", "_law_kept_store", "_law_last_store", "_law_spare_words", "_law_ordered_moves", "_law_lent", "_law_store"]
def loose3 : List Str := ["_law_paired", "_law_numbered", "_law_drawn_moves", "_law_some_moves", "_law_right", "_law_both_right", "_law_equal_right", "_law_lent_right"]
abbrev loose : List Str := loose0 ++ loose1 ++ loose2 ++ loose3
theorem run (w : World) : HandSHeadRun.RunEq R (PySem.W.view R.prog [60]) hk ob 60000 loose w := by
  intro os
  kernel_rfl
end KT
set_option Elab.async false
set_option linter.all false
set_option maxRecDepth 100000
set_option maxHeartbeats 2000000
namespace DTp
open PySem PySem.Spec PySem.W PyProof.Rows L2
def mergeT (kvs more : List (List Key × V)) : List (List Key × V) := more.foldl (fun acc kv => putK acc kv.1 kv.2) kvs
theorem length_mergeT : ∀ (more kvs : List (List Key × V)), (mergeT kvs more).length ≤ kvs.length + more.length
  | [], kvs => Nat.le_refl _
  | p :: r, kvs => by
    have a := length_mergeT r (putK kvs p.1 p.2); have b := length_putK kvs p.1 p.2
    show (mergeT (putK kvs p.1 p.2) r).length ≤ _
    rw [List.length_cons]; omega
theorem KT.merge {H : Hp} : ∀ {more : List (List Key × V)} {rs : List (List Key × Addr × Value)} {kvs : List (List Key × V)} {xs : List (List Key × Addr × Value)}, KT H more rs → KT H kvs xs → KT H (mergeT kvs more) (storedAllH xs rs)
  | _, _, _, _, .nil, h => h
  | _, _, _, _, .cons (a := p) (b := q) r t, h => by
    show KT H (mergeT (putK _ p.1 p.2) _) (storedAllH (storedH _ q.1 q.2.1 q.2.2) _)
    refine KT.merge t ?_
    rw [← r.1]
    exact h.put p.1 r.2.1 r.2.2
section
variable {X : Cx}
/-- what the pairs of a list are -/
def PrT (K : PySem.W.Frag) (H : Hp) : List Addr → List (List Key × V) → Prop := Paired fun p kv => ∃ b, SqT K H p [.ref b, kv.2] ∧ H b = some (.tup (kv.1.map kV))
theorem prs_of {pins : List (Addr × Obj)} {σ : L2.St} {H : Hp} {s : Shared} (I : Inv X pins σ H s) : ∀ {ps : List Addr} {kvs : List (List Key × V)}, PrT X.K H ps kvs → ∃ xs : List (List Key × Addr × Value), KT H kvs xs ∧ Paired (fun p (x : List Key × Addr × Value) => s.heap.IsTuple p #[.ref x.2.1, x.2.2]) ps xs
  | _, _, .nil => ⟨[], .nil, .nil⟩
  | _, _, .cons (a := p) (b := kv) r t => by
    obtain ⟨b, hp, hb⟩ := r
    obtain ⟨xs, h1, h2⟩ := prs_of I t
    obtain ⟨its, rv, ht, _⟩ := I.tuple hp
    obtain ⟨u, y, rfl, ru, ry⟩ := vals2 rv
    cases (show u = Value.ref b from ru)
    exact ⟨(kv.1, b, y) :: xs, .cons ⟨rfl, hb, ry⟩ h1, .cons ht h2⟩
theorem kt_is {pins : List (Addr × Obj)} {σ : L2.St} {H : Hp} {s : Shared} (I : Inv X pins σ H s) : ∀ {kvs : List (List Key × V)} {xs : List (List Key × Addr × Value)}, KT H kvs xs → ∀ x ∈ xs, H x.2.1 = some (.tup (x.1.map kV)) ∧ (tupleKind (mixKind X.prog X.w)).is s.heap x.1 x.2.1
  | _, _, .cons r t, x, hx => by
    rcases List.mem_cons.mp hx with rfl | hx
    · have e : H x.2.1 = some (.tup (x.1.map kV)) := by rw [← r.1]; exact r.2.1
      exact ⟨e, key_of I.hok e⟩
    · exact kt_is I t x hx
theorem paired_at {α β : Type} {F : α → β → Prop} : ∀ {xs : List α} {ys : List β}, Paired F xs ys → ∀ {i : Nat} {y : β}, ys[i]? = some y → ∃ x, xs[i]? = some x ∧ F x y
  | _, _, .nil, i, y, h => by cases h
  | _, _, .cons r t, 0, y, h => ⟨_, rfl, by cases h; exact r⟩
  | _, _, .cons r t, i + 1, y, h => paired_at t (i := i) h
theorem is_keeps {P : Program} {w : World} {h h' : Heap} {k : List Key} {b : Addr} (x : (tupleKind (mixKind P w)).is h k b) (e : ∀ o, h.get? b = some o → h'.get? b = some o) : (tupleKind (mixKind P w)).is h' k b := let ⟨o, its, n, ho, r⟩ := x; ⟨o, its, n, e _ ho, r⟩
/-- dict(xs), a list of pairs (tuple, value) -/
def rDictT (K : PySem.W.Frag) : List V → Hp → VK → Prop := fun vs H Q => ∃ (a : Addr) (ps : List Addr) (kvs : List (List Key × V)), vs = [.ref a] ∧ SqL K H a (ps.map V.ref) ∧ PrT K H ps kvs ∧ ∀ p, H p = none → Q (.ref p) (upd H p (.dT (mergeT [] kvs)))
theorem cr_dictT (hc : X.calm = true) (hu : X.A.units + 2 < cLine) : CallR X (.type "dict") (rDictT X.K) := by
  intro pins s σ H vs us Q I r h
  obtain ⟨a, ps, kvs, rfl, hq, hp, q⟩ := h
  rw [Vals.ref1 r]
  obtain ⟨its, rv, pl, hz⟩ := I.list hq
  have ei := refs_at rv
  subst ei
  rw [List.length_map] at hz
  obtain ⟨xs, kt, tp⟩ := prs_of I hp
  have l1 : kvs.length = xs.length := Paired.length kt
  have l2 : ps.length = xs.length := Paired.length tp
  let prs : List (Value × Value) := xs.map fun x => (Value.ref x.2.1, x.2.2)
  have lp : prs.length = xs.length := List.length_map _
  obtain ⟨o, n, ho, hcl, hd, hdat⟩ := pl
  have PA := PairArg.list (prog := X.prog) (w := X.w) a (ps.map Value.ref).toArray (fun j => ps.getD j 0) prs
  have at_ : ∀ j k v, prs[j]? = some (k, v) → ∃ (x : List Key × Addr × Value) (p : Addr), xs[j]? = some x ∧ ps[j]? = some p ∧ k = Value.ref x.2.1 ∧ v = x.2.2 ∧ s.heap.IsTuple p #[Value.ref x.2.1, x.2.2] := fun j k v e => by
    rw [List.getElem?_map] at e
    cases ex : xs[j]? with
    | none => rw [ex] at e; cases e
    | some x =>
      rw [ex] at e
      have e : (Value.ref x.2.1, x.2.2) = (k, v) := Option.some.inj e
      obtain ⟨p, hp1, hp2⟩ := paired_at tp ex
      exact ⟨x, p, ex, hp1, (congrArg Prod.fst e).symm, (congrArg Prod.snd e).symm, hp2⟩
  have ok : PlainSeq "list" s.heap a (ps.map Value.ref).toArray ∧ PairItems s.heap (ps.map Value.ref).toArray (fun j => ps.getD j 0) prs := by
    refine ⟨⟨o, n, ho, hcl, hd, hdat⟩, by rw [List.size_toArray, List.length_map, lp]; exact l2, fun j k v e => ?_⟩
    obtain ⟨x, p, e1, e2, rfl, rfl, e5⟩ := at_ j k v e
    have eg : ps.getD j 0 = p := by rw [List.getD_eq_getElem?_getD, e2]; rfl
    refine ⟨?_, ?_⟩
    · show (ps.map Value.ref).toArray[j]? = some (.ref (ps.getD j 0))
      rw [eg, List.getElem?_toArray, List.getElem?_map, e2]; rfl
    · show PairAt s.heap (ps.getD j 0) _ _
      rw [eg]; exact .inl e5
  refine call_dict_pairsH (knd := tupleKind (mixKind X.prog X.w)) (ps := xs) PA (I.ok.hd hc) hu ok ⟨lp.symm, fun i key v e => ?_⟩ (fun h' hk x hx => ?_) (by rw [lp, ← l2]; exact hz) fun h' tk hd' hk => ?_
  · obtain ⟨x, p, e1, e2, rfl, rfl, e5⟩ := at_ i key v e
    exact ⟨x.1, x.2.1, by rw [e1], rfl⟩
  · have k := (kt_is I kt x hx).2
    exact is_keeps k fun o e => hk _ _ (Nat.ne_of_lt (Heap.lt_size e)) (by simp) e
  · have hm : (s.heap.objs.size == sysModules) = false := beq_eq_false_iff_ne.mpr (Nat.ne_of_gt I.big)
    have hn : H s.heap.objs.size = none := I.hok.fresh (Nat.le_refl _)
    have hlen : (mergeT [] kvs).length ≤ sizeLine := by
      have e := length_mergeT kvs []
      rw [List.length_nil] at e
      omega
    obtain ⟨o', es, ep, h1, h2, h3, h4, _, h5⟩ := hd'
    refine ⟨.ref s.heap.objs.size, upd H s.heap.objs.size (.dT (mergeT [] kvs)), I.laid (t' := tk) (fun b o e => hk b o (by simp) e) (Nat.le_refl _) ⟨hlen, hm, storedAllH [] xs, (KT.merge kt .nil).keeps fun b ys e => ?_, o', es, ep, h1, h2, h3, h4, h5⟩, rfl, q _ hn⟩
    rw [upd_ne (ne_of_none e hn)]
    exact e
abbrev ltT (x y : Str) : Prop := x.cps.toList < y.cps.toList
theorem dataLt_ss (x y x' y' : Str) : dataLt (.tuple [.str x, .str y]) (.tuple [.str x', .str y']) = decide (ltT x x' ∨ (x = x' ∧ ltT y y')) := by
  rw [dataLt_pair (by simp [alike]) (by simp [alike]), dataLt_str, dataLt_str]
  simp only [PyData.eqv, beq_iff_eq]
  have irr : ∀ l : List Nat, ¬ l < l := fun l => List.lt_irrefl l
  by_cases h1 : x = x' <;> by_cases h2 : y = y' <;> simp [h1, h2, irr]
def encS (p : Addr × Str × Str) : PyData := .tuple [.str p.2.1, .str p.2.2]
/-- the order of pairs of texts -/
def leP (p q : Str × Str) : Prop := ¬ (ltT q.1 p.1 ∨ (q.1 = p.1 ∧ ltT q.2 p.2))
theorem leB (p q : Addr × Str × Str) : dataLe false encS p q = true ↔ leP p.2 q.2 := by
  rw [dataLe_eq]
  show (!dataLt (encS q) (encS p)) = true ↔ _
  unfold encS leP
  rw [dataLt_ss, Bool.not_eq_true', decide_eq_false_iff_not]
theorem str_ext {x y : Str} (h : x.cps.toList = y.cps.toList) : x = y := by
  cases x; cases y
  simp only at h
  congr
  exact Array.ext' h
theorem ltT_trans {x y z : Str} (a : ltT x y) (b : ltT y z) : ltT x z := List.lt_trans a b
theorem ltT_tri (x y : Str) : ltT x y ∨ x = y ∨ ltT y x := by
  rcases Classical.em (ltT x y) with h | h
  · exact .inl h
  rcases Classical.em (ltT y x) with k | k
  · exact .inr (.inr k)
  · exact .inr (.inl (str_ext (List.le_antisymm (List.not_lt.mp k) (List.not_lt.mp h))))
theorem ltT_irr (x : Str) : ¬ ltT x x := List.lt_irrefl _
theorem leP_trans {p q r : Str × Str} (a : leP p q) (b : leP q r) : leP p r := by
  unfold leP at *
  rintro (h | ⟨h, k⟩)
  · rcases ltT_tri p.1 q.1 with c | c | c
    · exact b (.inl (ltT_trans h c))
    · exact b (.inl (c ▸ h))
    · exact a (.inl c)
  · rcases ltT_tri p.1 q.1 with c | c | c
    · exact b (.inl (h ▸ c))
    · rcases ltT_tri p.2 q.2 with d | d | d
      · exact b (.inr ⟨h.trans c, ltT_trans k d⟩)
      · exact b (.inr ⟨h.trans c, d ▸ k⟩)
      · exact a (.inr ⟨c.symm, d⟩)
    · exact a (.inl c)
theorem leP_total (p q : Str × Str) : leP p q ∨ leP q p := by
  rcases Classical.em (leP p q) with h | h
  · exact .inl h
  · right
    unfold leP at *
    rintro (k | ⟨k, l⟩)
    · refine h ?_
      rintro (m | ⟨m, _⟩)
      · exact ltT_irr _ (ltT_trans k m)
      · rw [m] at k; exact ltT_irr _ k
    · refine h ?_
      rintro (m | ⟨m, n⟩)
      · rw [k] at m; exact ltT_irr _ m
      · exact ltT_irr _ (ltT_trans l n)
def keyP (p : Str × Str) : List Key := [.inr p.1, .inr p.2]
def rSortT : List V → Hp → VK → Prop := fun vs H Q => ∃ (a : Addr) (kvs : List (List Key × V)) (ps : List (Str × Str)), vs = [.ref a] ∧ Rd H a (.dT kvs) ∧ kvs.map (·.1) = ps.map keyP ∧ ps.length ≤ 1000 ∧
  ∀ (qs : List (Addr × Str × Str)) (p : Addr), (qs.map (·.2)).Perm ps → (qs.map (·.2)).Pairwise leP → (∀ q ∈ qs, H q.1 = some (.tup [.str q.2.1, .str q.2.2])) → H p = none → Q (.ref p) (upd H p (.lst (qs.map fun q => V.ref q.1)))
theorem each_of {α β : Type} {R : α → β → Prop} (f : β → α) (h : ∀ b, R (f b) b → R (f b) b) : ∀ (bs : List β), (∀ b ∈ bs, R (f b) b) → EachIs R (bs.map f) bs
  | [], _ => .nil
  | b :: bs, k => .cons (k b List.mem_cons_self) (each_of f h bs fun c hc => k c (List.mem_cons_of_mem _ hc))
theorem each_eq {β : Type} (f : β → Value) : ∀ {as : List Value} {bs : List β}, EachIs (fun v b => v = f b) as bs → as = bs.map f
  | _, _, .nil => rfl
  | _, _, .cons h t => by rw [List.map_cons, ← each_eq f t, h]
theorem vals_qs : ∀ qs : List (Addr × Str × Str), Vals (qs.map fun q => V.ref q.1) (qs.map fun b => Value.ref b.1)
  | [] => .nil
  | q :: qs => .cons (show RelV (V.ref q.1) (Value.ref q.1) from rfl) (vals_qs qs)
theorem cr_sortT (hc : X.calm = true) (hu : X.A.units + 64 < cLine) : CallR X (.builtin "sorted") rSortT := by
  intro pins s σ H vs us Q I r h
  obtain ⟨a, kvs, ps, rfl, ha, hks, few, q⟩ := h
  rw [Vals.ref1 r]
  obtain ⟨z, lo, xs, rel, dd⟩ := dt_rd I.hok ha
  obtain ⟨o, es, ep, ho, hex, hdat, hes, his, hnd⟩ := id dd
  have l1 : kvs.length = xs.length := Paired.length rel
  have l2 : kvs.length = ps.length := by
    have e := congrArg List.length hks
    rwa [List.length_map, List.length_map] at e
  have le : es.size = xs.length := size_of_entries hes
  -- the keys with their places
  let bs : List (Addr × Str × Str) := (xs.map fun x => x.2.1).zip ps
  have lb : bs.length = ps.length := by show (List.zip _ _).length = _; rw [List.length_zip, List.length_map]; omega
  have bat : ∀ (i : Nat) (b : Addr × Str × Str), bs[i]? = some b → ∃ x, xs[i]? = some x ∧ x.2.1 = b.1 ∧ ps[i]? = some b.2 ∧ H b.1 = some (.tup [.str b.2.1, .str b.2.2]) := fun i b e => by
    obtain ⟨e1, e2⟩ := List.getElem?_zip_eq_some.mp e
    rw [List.getElem?_map] at e1
    cases ex : xs[i]? with
    | none => rw [ex] at e1; cases e1
    | some x =>
      rw [ex] at e1
      have e1 : x.2.1 = b.1 := Option.some.inj e1
      obtain ⟨kv, hk, r1, r2, r3⟩ := paired_at rel ex
      have ek : (kvs.map (·.1))[i]? = some kv.1 := by rw [List.getElem?_map, hk]; rfl
      rw [hks, List.getElem?_map, e2] at ek
      have ek : keyP b.2 = kv.1 := Option.some.inj ek
      refine ⟨x, rfl, e1, e2, ?_⟩
      rw [← ek, e1] at r2
      exact r2
  have bmem : ∀ b ∈ bs, H b.1 = some (.tup [.str b.2.1, .str b.2.2]) := fun b hb => by
    obtain ⟨i, hi⟩ := List.mem_iff_getElem?.mp hb
    obtain ⟨_, _, _, _, h⟩ := bat i b hi
    exact h
  refine Calls.call_function_entry PyProof.Rows.kind_sorted PyProof.Rows.plain_sorted PyProof.Rows.entry_sorted (PyProof.Rows.args_sorted1 _) ?_
  unfold Builtin.«sorted»
  refine wpAny_bind (m := checkCount "sorted" 1 1 _) (wpAny_pure (wpAny_bind (kdu_collect (A := X.A.in1) (KdlSrc.rawDict (es := es) (ep := ep) lo) (I.ok.hd hc) ⟨o, ho, hex, hdat⟩ (by rw [le, ← l1]; exact z) fun h' tk acc hk hacc => ?_)))
  have eacc : acc.toList = bs.map fun b => Value.ref b.1 := by
    apply List.ext_getElem?
    intro i
    rw [Array.getElem?_toList, List.getElem?_map]
    cases e : acc[i]? with
    | none =>
      have h1 : acc.size ≤ i := Array.getElem?_eq_none_iff.mp e
      rw [List.getElem?_eq_none (by rw [lb, ← l2, l1, ← le, ← hacc.1]; exact h1)]
      rfl
    | some v =>
      obtain ⟨hi, hv⟩ := hacc.2 i v e
      have hib : i < bs.length := by rw [lb, ← l2, l1, ← le]; exact hi
      rw [List.getElem?_eq_getElem hib]
      obtain ⟨x, hx, e1, _, _⟩ := bat i bs[i] (List.getElem?_eq_getElem hib)
      have en := entry_at hes i
      rw [hx, Array.getElem?_eq_getElem hi] at en
      have en := Option.some.inj en
      rw [hv, en]
      show some (Value.ref x.2.1) = some (Value.ref bs[i].1)
      rw [e1]
  have I1 : Inv X pins σ H { s with heap := h', toks := tk } := I.kept (t' := tk) hk
  refine wpAny_bind (wpAny_newList ?_ (by rw [eacc, List.length_map, lb, sizeLine_eq]; omega))
  show wpAny _ _ _ _ _ { s with heap := h'.push (seqObj "list" acc.toList.toArray 0), toks := tk }
  have hoL : (h'.push (seqObj "list" acc.toList.toArray 0)).get? h'.objs.size = some (seqObj "list" acc.toList.toArray 0) := Heap.get?_push_size _ rfl
  have I2 : Inv X pins σ H { s with heap := h'.push (seqObj "list" acc.toList.toArray 0), toks := tk } := I1.kept (t' := tk) fun b u e => Heap.get?_push_of_some _ e
  have rd : ∀ b ∈ bs, ∃ as, Reads (h'.push (seqObj "list" acc.toList.toArray 0)) (.ref b.1) (encS b) as ∧ h'.objs.size ∉ as := fun b hb => by
    obtain ⟨its, rv, ⟨ot, hot, hct, nt, hdt⟩, _⟩ := I2.tuple (SqT.of (bmem b hb))
    obtain ⟨u, y, rfl, ⟨t1, rfl⟩, ⟨t2, rfl⟩⟩ := vals2 rv
    exact ⟨_, .tuple hot hct hdt (.cons (.str _ _) (.cons (.str _ _) .nil)), by simp⟩
  refine wpAny_bind (wpAny_holding (list_sort_data (s := { s with heap := h'.push (seqObj "list" acc.toList.toArray 0), toks := tk }) (R := fun v b => v = .ref b.1 ∧ b ∈ bs) (bs := bs) (enc := encS) hoL ?_ ?_ (.of fun b b' => by simp [encS, alike, alikeAll]) (.tuples fun b => ⟨_, _, rfl⟩) (by rw [lb, sizeLine_eq]; omega) (fun b hb => ?_) fun out ho' hs => ?_))
  · rw [eacc]; exact each_of _ (fun _ h => h) bs fun b hb => ⟨rfl, hb⟩
  · have rd' := each_of (R := fun v b => ∃ as, Reads (h'.push (seqObj "list" acc.toList.toArray 0)) v (encS b) as ∧ h'.objs.size ∉ as) (fun b : Addr × Str × Str => Value.ref b.1) (fun _ h => h) bs rd
    rw [← eacc] at rd'
    exact rd'
  · show X.A.in1.units + 1 + (encS b).depth < cLine
    have e : (encS b).depth ≤ 2 := by simp [encS, PyData.depth, PyData.depthAll]
    have e2 : X.A.in1.units = X.A.units + 1 := rfl
    omega
  · let qs := bs.mergeSort (dataLe false encS)
    have pq : qs.Perm bs := List.mergeSort_perm _ _
    have eo : out = qs.map fun b => Value.ref b.1 := each_eq _ (hs.mono fun v b h => h.1)
    have p2 : (qs.map (·.2)).Perm ps := by
      have e := pq.map (·.2)
      have m2 : bs.map (·.2) = ps := List.map_snd_zip (by rw [List.length_map]; omega)
      rw [m2] at e
      exact e
    have so : (qs.map (·.2)).Pairwise leP := by
      rw [List.pairwise_map]
      have w := List.pairwise_mergeSort (le := dataLe false encS) (fun a b c h k => (leB a c).mpr (leP_trans ((leB a b).mp h) ((leB b c).mp k))) (fun a b => by
        rcases leP_total a.2 b.2 with h | h
        · rw [(leB a b).mpr h]; rfl
        · rw [(leB b a).mpr h, Bool.or_true]) bs
      exact w.imp fun h => (leB _ _).mp h
    have hn : H h'.objs.size = none := I1.hok.fresh (Nat.le_refl _)
    obtain ⟨c, hcc⟩ := sortedHeap_at (vs := acc.toList) (out := out.toArray) hoL
    have lq : (qs.map fun q => V.ref q.1).length ≤ sizeLine := by rw [List.length_map, pq.length_eq, lb, sizeLine_eq]; omega
    refine wpAny_pure ⟨_, rfl, ?_⟩
    refine ⟨.ref h'.objs.size, upd H h'.objs.size (.lst (qs.map fun q => V.ref q.1)), I1.laid (o := .lst (qs.map fun q => V.ref q.1)) (t' := tk) (h' := sortedHeap (h'.push (seqObj "list" acc.toList.toArray 0)) h'.objs.size acc.toList out.toArray) (fun b u e => ?_) (Nat.le_refl _) ⟨lq, out, c, ?_, hcc⟩, rfl, q qs h'.objs.size p2 so (fun q' hq' => bmem q' (pq.mem_iff.mp hq')) hn⟩
    · have hlt := Heap.lt_size e
      rw [sortedHeap_old (Nat.ne_of_lt hlt) (by rw [Heap.size_push]; exact Nat.lt_succ_of_lt hlt)]
      exact Heap.get?_push_of_some _ e
    · rw [eo]
      exact vals_qs qs
end
end DTp
set_option Elab.async false
set_option linter.all false
set_option maxRecDepth 100000
set_option maxHeartbeats 2000000
namespace DTp
open PySem PySem.Spec PySem.W PyProof.Rows L2
/-- whether two dicts with texts as values are the same, whatever the order -/
def sameT (ks ls : List (List Key × V)) : Bool := ks.length == ls.length && ks.all fun p => decide (valV ls p.1 = some p.2)
end DTp
set_option Elab.async false
set_option linter.all false
set_option maxRecDepth 100000
namespace GC
open PySem PySem.Spec PyProof.Rows L2
abbrev NoE : Value → Shared → Prop := fun _ _ => False
section
variable {prog : Program} {w : World} {A : Around} {R : Result → Shared → Prop} {s : Shared} {env : Env} {it acc : Value}
/-- what the last clause of a comprehension does with an item that passed the tests -/
def Emit (prog : Program) (w : World) (A : Around) (env : Env) (acc : Value) : Expr → (Shared → Prop) → Shared → Prop
  | .ListComp elt _ _ _, Q, s => wpAny (model prog w) A (eval elt env) (fun x s => wpAny (model prog w) A (call (.builtin "list.append") [acc, x]) (fun _ s => Q s) NoE s) NoE s
  | .SetComp elt _ _ _, Q, s => wpAny (model prog w) A (eval elt env) (fun x s => wpAny (model prog w) A (call (.builtin "set.add") [acc, x]) (fun _ s => Q s) NoE s) NoE s
  | .DictComp k v _ _ _, Q, s => ∃ D, acc = .ref D ∧ wpAny (model prog w) A (eval k env) (fun x s => wpAny (model prog w) A (eval v env) (fun y s => wpAny (model prog w) A (dictSet D x y) (fun _ s => Q s) NoE s) NoE s) NoE s
  | _, _, _ => False
/-- what one turn of a clause comes to, D what follows the tests -/
def Turned (prog : Program) (w : World) (A : Around) (env : Env) (it : Value) (tg : Expr) (ifs : List Expr) (Done : Shared → Prop) (Dp : (Shared → Prop) → Shared → Prop) (Nx : Shared → Prop) (s : Shared) : Prop :=
  wpAny (model prog w) A (pyNext it) (fun r s₁ => match r with
    | none => Done s₁
    | some v => wpAny (model prog w) A (letOwnedTupleGo tg it v) (fun _ s₂ => wpAny (model prog w) A (assign tg env v) (fun _ s₃ =>
        wpAny (model prog w) A (forIn ifs true fun c r => if r = true then do let ok ← isTrue c env (eval c env); pure (ForInStep.yield ok) else pure (ForInStep.yield r)) (fun ok s₄ => if ok = true then Dp Nx s₄ else Nx s₄) NoE s₃) NoE s₂) NoE s₁) NoE s
def Deep (prog : Program) (w : World) (A : Around) (env : Env) (acc : Value) (e : Expr) (d : Nat) (g : Comprehension) (Nx : Shared → Prop) (s : Shared) : Prop :=
  wpAny (model prog w) A (eval g.iter env) (fun x s => wpAny (model prog w) A (pyIter x) (fun it1 s => codeAny (model prog w) A (.compStart e (d + 1) it1 acc env) (fun r s' => match r with
    | .ok _ => Nx s'
    | .error _ => False) s) NoE s) NoE s
inductive Kd : Expr → List Comprehension → Prop
  | l (elt gens scope pos) : Kd (.ListComp elt gens scope pos) gens
  | s (elt gens scope pos) : Kd (.SetComp elt gens scope pos) gens
  | d (k v gens scope pos) : Kd (.DictComp k v gens scope pos) gens
theorem nf {α : Type} {M : Model} {t : Sem α} {Q : α → Shared → Prop} {E : Value → Shared → Prop} (h : wpAny M A t Q NoE s) : wpAny M A t Q E s := wpAny_mono h (fun _ _ q => q) fun _ _ z => z.elim
theorem loop_last {e : Expr} {gens : List Comprehension} {d : Nat} {tg iter : Expr} {ifs : List Expr} (K : Kd e gens) (hd : gens[d]? = some ⟨tg, iter, ifs, 0⟩) (hl : gens[d + 1]? = none) (I : Nat → Shared → Prop)
    (turn : ∀ n s, I n s → Turned prog w A env it tg ifs (R (.ok .next)) (Emit prog w A env acc e) (fun s' => ∃ m, m < n ∧ I m s') s) (n : Nat) (h : I n s) : codeAny (model prog w) A (.compLoop e d it acc env) R s := by
  cases K
  all_goals
    refine codeAny_loop rfl I (fun n s hI => ?_) n h
    refine wpAny_noted (M := model prog w) ?_
    unfold compTurn; dsimp only; rw [hd, hl]; dsimp only
    refine wpAny_bind (wpAny_standAt (wpAny_bind (wpAny_mono (turn n s hI) (fun r s₁ h₁ => ?_) fun _ _ z => z.elim)))
    cases r with
    | none => exact wpAny_pure h₁
    | some v =>
      refine wpAny_bind (wpAny_mono h₁ (fun _ s₂ h₂ => wpAny_bind (wpAny_mono h₂ (fun _ s₃ h₃ => wpAny_bind (wpAny_mono h₃ (fun ok s₄ h₄ => ?_) fun _ _ z => z.elim)) fun _ _ z => z.elim)) fun _ _ z => z.elim)
      cases ok with
      | false => exact wpAny_pure ⟨rfl, h₄⟩
      | true =>
        first
          | exact wpAny_bind (wpAny_bind (wpAny_mono h₄ (fun x s₄ h₄ => wpAny_bind (wpAny_mono h₄ (fun _ s₅ h₅ => wpAny_pure (wpAny_pure ⟨rfl, h₅⟩)) fun _ _ z => z.elim)) fun _ _ z => z.elim))
          | exact wpAny_bind (wpAny_bind (wpAny_mono h₄ (fun x s₄ h₄ => wpAny_bind (wpAny_standAt (wpAny_bind (wpAny_mono h₄ (fun _ s₅ h₅ => wpAny_pure (wpAny_pure ⟨rfl, h₅⟩)) fun _ _ z => z.elim)))) fun _ _ z => z.elim))
          | (obtain ⟨D, rfl, h₅⟩ := h₄
             exact wpAny_bind (wpAny_bind (wpAny_mono h₅ (fun x s₄ h₄ => wpAny_bind (wpAny_holding (wpAny_mono h₄ (fun y s₅ h₅ => wpAny_bind (wpAny_standAt (wpAny_holding (wpAny_mono h₅ (fun _ s₆ h₆ => wpAny_pure ⟨rfl, h₆⟩) fun _ _ z => z.elim)))) fun _ _ z => z.elim))) fun _ _ z => z.elim)))
theorem loop_more {e : Expr} {gens : List Comprehension} {d : Nat} {tg iter tg1 iter1 : Expr} {ifs ifs1 : List Expr} (K : Kd e gens) (hd : gens[d]? = some ⟨tg, iter, ifs, 0⟩) (hl : gens[d + 1]? = some ⟨tg1, iter1, ifs1, 0⟩) (hs : ∀ x, foldedSetIterable iter1 env x = pure x) (I : Nat → Shared → Prop)
    (turn : ∀ n s, I n s → Turned prog w A env it tg ifs (R (.ok .next)) (Deep prog w A env acc e d ⟨tg1, iter1, ifs1, 0⟩) (fun s' => ∃ m, m < n ∧ I m s') s) (n : Nat) (h : I n s) : codeAny (model prog w) A (.compLoop e d it acc env) R s := by
  cases K
  all_goals
    refine codeAny_loop rfl I (fun n s hI => ?_) n h
    refine wpAny_noted (M := model prog w) ?_
    unfold compTurn; dsimp only; rw [hd, hl]; dsimp only
    refine wpAny_bind (wpAny_standAt (wpAny_bind (wpAny_mono (turn n s hI) (fun r s₁ h₁ => ?_) fun _ _ z => z.elim)))
    cases r with
    | none => exact wpAny_pure h₁
    | some v =>
      refine wpAny_bind (wpAny_mono h₁ (fun _ s₂ h₂ => wpAny_bind (wpAny_mono h₂ (fun _ s₃ h₃ => wpAny_bind (wpAny_mono h₃ (fun ok s₄ h₄ => ?_) fun _ _ z => z.elim)) fun _ _ z => z.elim)) fun _ _ z => z.elim)
      cases ok with
      | false => exact wpAny_pure ⟨rfl, h₄⟩
      | true =>
        unfold Deep at h₄
        refine wpAny_bind (wpAny_mono h₄ (fun x s₅ h₅ => ?_) fun _ _ z => z.elim)
        refine wpAny_bind (wpAny_standAt (wpAny_bind (wpAny_of_eq (hs x) (wpAny_bind (wpAny_holding (wpAny_mono h₅ (fun it1 s₆ h₆ => ?_) fun _ _ z => z.elim))))))
        refine wpAny_bind (wpAny_runOwn ?_)
        rw [Around.mark_none]
        refine codeAny_mono h₆ fun r s' hr => ?_
        cases r with
        | ok f =>
          first
            | exact wpAny_pure ⟨rfl, hr⟩
            | exact wpAny_bind (wpAny_pure (wpAny_pure ⟨rfl, hr⟩))
        | error e => exact hr.elim
theorem start_any {e : Expr} {gens : List Comprehension} {d : Nat} {tg iter : Expr} {ifs : List Expr} (K : Kd e gens) (hd : gens[d]? = some ⟨tg, iter, ifs, 0⟩) (h0 : codeAny (model prog w) A (.compLoop e d it acc env) R s)
    (h : wpAny (model prog w) A (pyIter it) (fun it' s' => codeAny (model prog w) A (.compLoop e d it' acc env) R s') NoE s) : codeAny (model prog w) A (.compStart e d it acc env) R s := by
  cases K
  all_goals
    refine codeAny_of_tree ?_
    refine wpAny_notedAt (M := model prog w) ?_
    unfold compStart clausesOf
    rw [hd]
    refine wpAny_bind (wpAny_askSetting (wpAny_ite ?_))
    split
    · first
        | exact wpAny_bind (wpAny_pure (wpAny_pure (And.intro rfl h0)))
        | exact wpAny_pure (And.intro rfl h0)
    · first
        | exact wpAny_bind (wpAny_rule (wpAny_bind (wpAny_standAt (wpAny_bind (wpAny_mono h (fun it' s' h' => wpAny_pure (And.intro rfl h')) fun _ _ x => x.elim)))))
        | (refine wpAny_bind (wpAny_rule ?_); show wpAny _ _ (standAt iter.pos >>= _) _ _ s; exact wpAny_bind (wpAny_standAt (wpAny_bind (wpAny_mono h (fun it' s' h' => wpAny_pure (And.intro rfl h')) fun _ _ x => x.elim))))
end
/-- one clause: target, source, tests, with their readings and the places that the target stores to -/
structure Cl where
  tg : Expr
  iter : Expr
  ifs : List Expr
  wi : TI
  g : TG
  tt : TT
  vs : List Nat
def Cl.c (c : Cl) : Comprehension := ⟨c.tg, c.iter, c.ifs, 0⟩
/-- a clause's loop from the heap H: W by the turn and a measure; D what an item that passes comes to; End what stands at the end -/
def Lp (J : It) (g : TG) (tt : TT) (vs : List Nat) (D : L2.St → Hp → (Hp → Prop) → Prop) (σ : L2.St) (H : Hp) (End : Hp → Prop) : Prop :=
  ∃ W : Nat → Nat → Hp → Prop, (∃ m, W 0 m H) ∧ ∀ i m H, W i m H → (J.stop i H ∧ End H) ∨ (J.go i H ∧ ∃ Nx : Hp → Prop, (∀ H', Nx H' → ∃ m', m' < m ∧ W (i + 1) m' H') ∧
    ∀ x H', J.yld i H x H' → g x (wipe σ vs) H' fun σ2 H2 => wipe σ2 vs = wipe σ vs ∧ tt σ2 H2 fun b H3 => if b = true then D σ2 H3 Nx else Nx H3)
/-- what stands behind a clause's tests: the further clauses, at last the item's taking -/
def Rest (em : L2.St → Hp → (Hp → Prop) → Prop) : List Cl → L2.St → Hp → (Hp → Prop) → Prop
  | [], σ, H, Nx => em σ H Nx
  | c :: cs, σ, H, Nx => c.wi σ H fun J H1 => Lp J c.g c.tt c.vs (Rest em cs) σ H1 Nx
section
variable {X : Cx}
/-- what holds of each clause within the block B -/
structure ClOk (B : Cx) (c : Cl) : Prop where
  pg : PG B c.tg c.g
  pt : PTs B c.ifs c.tt
  hs : ∀ x, foldedSetIterable c.iter B.env x = pure x
abbrev EmOk (B : Cx) (acc : Value) (e : Expr) (em : L2.St → Hp → (Hp → Prop) → Prop) : Prop :=
  ∀ (pins : List (Addr × Obj)) (s : Shared) (σ : L2.St) (H : Hp) (Nx : Hp → Prop), Inv B pins σ H s → em σ H Nx → Emit B.prog B.w B.A B.env acc e (fun s' => ∃ H', Inv B pins σ H' s' ∧ Nx H') s
abbrev Knows (τ σ : L2.St) : Prop := τ.length = σ.length ∧ ∀ (j : Nat) v, τ[j]? = some (some v) → σ[j]? = some (some v)
theorem Knows.refl (σ : L2.St) : Knows σ σ := ⟨rfl, fun _ _ h => h⟩
theorem wipe_knows (σ : L2.St) (vs : List Nat) : Knows (wipe σ vs) σ := ⟨wipe_length _ _, fun _ _ e => (wipe_some e).1⟩
theorem wipe_wipe {σ : L2.St} {vs vs1 : List Nat} (h : ∀ i ∈ vs1, i ∈ vs) : Knows (wipe σ vs) (wipe σ vs1) := ⟨(wipe_length _ _).trans (wipe_length _ _).symm, fun j v e => by
  obtain ⟨e1, e2⟩ := wipe_some e
  rw [wipe_out fun z => e2 (h j z)]
  exact e1⟩
theorem Knows.trans {a b c : L2.St} (h : Knows a b) (k : Knows b c) : Knows a c := ⟨h.1.trans k.1, fun j v e => k.2 j v (h.2 j v e)⟩
/-- one turn of a clause -/
theorem turn_ok {B : Cx} {tg : Expr} {ifs : List Expr} {g : TG} {tt : TT} {vs : List Nat} {D : L2.St → Hp → (Hp → Prop) → Prop} {Dp : (Shared → Prop) → Shared → Prop} {σ : L2.St} {J : It} {fp : List Addr} {it : Addr} {tn : Nat → Heap → Prop} {End : Hp → Prop} {R : Result → Shared → Prop} {pins : List (Addr × Obj)}
    (hc : B.calm = true) (b1 : B.xe = NoE) (pg : PG B tg g) (pt : PTs B ifs tt) (T : Turn B.prog B.w B.K tg J fp it tn) (ffp : ∀ b ∈ fp, ∀ H', H' b = none → FpOk B pins H' b) (mono : ∀ {Q Q' : Shared → Prop} {s}, (∀ s', Q s' → Q' s') → Dp Q s → Dp Q' s)
    (deep : ∀ (pins' : List (Addr × Obj)) (s : Shared) (σ2 : L2.St) (H3 : Hp) (Nx : Hp → Prop), Inv B pins' σ2 H3 s → D σ2 H3 Nx → Dp (fun s' => ∃ σ9 H', Inv B pins' σ9 H' s' ∧ Knows (wipe σ2 vs) σ9 ∧ Nx H') s)
    {W : Nat → Nat → Hp → Prop} (turn : ∀ i m H, W i m H → (J.stop i H ∧ End H) ∨ (J.go i H ∧ ∃ Nx : Hp → Prop, (∀ H', Nx H' → ∃ m', m' < m ∧ W (i + 1) m' H') ∧
      ∀ x H', J.yld i H x H' → g x (wipe σ vs) H' fun σ2 H2 => wipe σ2 vs = wipe σ vs ∧ tt σ2 H2 fun b H3 => if b = true then D σ2 H3 Nx else Nx H3))
    (hR : ∀ s' H', Inv B pins (wipe σ vs) H' s' → End H' → R (.ok .next) s') (n : Nat) (s : Shared) (hI : ∃ i H', Inv B pins (wipe σ vs) H' s ∧ tn i s.heap ∧ (∀ b ∈ fp, H' b = none) ∧ W i n H') :
    Turned B.prog B.w B.A B.env (.ref it) tg ifs (R (.ok .next)) Dp (fun s' => ∃ m, m < n ∧ ∃ i H', Inv B pins (wipe σ vs) H' s' ∧ tn i s'.heap ∧ (∀ b ∈ fp, H' b = none) ∧ W i m H') s := by
  obtain ⟨i, H5, I5, st5, n5, w5⟩ := hI
  have stat : ∀ {H' : Hp}, (∀ b ∈ fp, H' b = none) → ∀ b ∈ fp, FpOk B pins H' b := fun hn b hb => ffp b hb _ (hn b hb)
  unfold Turned
  rcases turn i n H5 w5 with ⟨stop, qq⟩ | ⟨go, Nx, hNx, step⟩
  · refine thnF (T.done B rfl rfl rfl hc i pins s _ H5 NoE I5 (stat n5) st5 stop) fun r s6 ⟨hr, I6⟩ => ?_
    subst hr
    exact hR s6 H5 I6 qq
  · refine thnF (T.item B rfl rfl rfl hc i pins s _ H5 NoE I5 (stat n5) st5 go) fun r s6 ⟨u, hr, h6⟩ => ?_
    subst hr
    refine thnF h6 fun _ s7 ⟨x, H7, I7, r7, y7, st7, n7⟩ => ?_
    have I7' := I7.pinned (stat n7) (T.obj _ _ st7)
    have run1 := pg.run _ s7 _ H7 x u _ I7' r7 (step x H7 y7)
    rw [b1] at run1
    refine thnF run1 fun _ s8 ⟨σ8, H8, I8, hw8, q8⟩ => ?_
    have run2 := pt.run _ s8 σ8 H8 _ I8 q8
    rw [b1] at run2
    refine thnF run2 fun b s9 ⟨H9, I9, q9⟩ => ?_
    have fin : ∀ {σ9 : L2.St} {s' : Shared} {H' : Hp}, Inv B (pins ++ pinsAt fp s7.heap) σ9 H' s' → Knows (wipe σ vs) σ9 → Nx H' → ∃ m, m < n ∧ ∃ i H', Inv B pins (wipe σ vs) H' s' ∧ tn i s'.heap ∧ (∀ b ∈ fp, H' b = none) ∧ W i m H' := fun {σ9 s' H'} I' kn nx => by
      obtain ⟨m', hm, w'⟩ := hNx H' nx
      have pin' : ∀ b ∈ fp, ∀ o, s7.heap.get? b = some o → s'.heap.get? b = some o ∧ H' b = none := fun b hb o e =>
        let z := I'.pin (b, o) (List.mem_append_right _ (List.mem_append_right _ (mem_pinsAt hb e))); ⟨z.1, z.2.1⟩
      refine ⟨m', hm, i + 1, H', (I'.unpinned (pins := pins)).weak kn.1 kn.2, T.keep _ _ _ st7 fun b hb o e => (pin' b hb o e).1, fun b hb => ?_, w'⟩
      obtain ⟨o, e, _⟩ := T.obj _ _ st7 b hb
      exact (pin' b hb o e).2
    have k8 : Knows (wipe σ vs) σ8 := by
      rw [← hw8]
      exact wipe_knows σ8 vs
    cases b with
    | false => exact fin I9 k8 q9
    | true =>
      refine mono (fun s' h => ?_) (deep _ s9 σ8 H9 Nx I9 q9)
      obtain ⟨σ9, H', I', kn, nx⟩ := h
      rw [hw8] at kn
      exact fin I' kn nx
theorem emit_mono {prog : Program} {w : World} {A : Around} {env : Env} {acc : Value} {e : Expr} {Q Q' : Shared → Prop} {s : Shared} (h : ∀ s', Q s' → Q' s') (k : Emit prog w A env acc e Q s) : Emit prog w A env acc e Q' s := by
  unfold Emit at k ⊢
  split at k
  · exact wpAny_mono k (fun _ _ z => wpAny_mono z (fun _ _ q => h _ q) fun _ _ z => z) fun _ _ z => z
  · exact wpAny_mono k (fun _ _ z => wpAny_mono z (fun _ _ q => h _ q) fun _ _ z => z) fun _ _ z => z
  · obtain ⟨D, e, k⟩ := k
    exact ⟨D, e, wpAny_mono k (fun _ _ z => wpAny_mono z (fun _ _ q => wpAny_mono q (fun _ _ q => h _ q) fun _ _ z => z) fun _ _ z => z) fun _ _ z => z⟩
  · exact k
theorem deep_mono {prog : Program} {w : World} {A : Around} {env : Env} {acc : Value} {e : Expr} {d : Nat} {g : Comprehension} {Q Q' : Shared → Prop} {s : Shared} (h : ∀ s', Q s' → Q' s') (k : Deep prog w A env acc e d g Q s) : Deep prog w A env acc e d g Q' s := by
  unfold Deep at k ⊢
  refine wpAny_mono k (fun _ _ z => wpAny_mono z (fun _ _ q => codeAny_mono q fun r s' hr => ?_) fun _ _ z => z) fun _ _ z => z
  cases r with
  | ok f => exact h _ hr
  | error x => exact hr
def Nested : List Cl → Prop
  | c :: c1 :: cs => (∀ i ∈ c1.vs, i ∈ c.vs) ∧ Nested (c1 :: cs)
  | _ => True
theorem loop_ok {B : Cx} {e : Expr} {gens : List Comprehension} {acc : Value} {em : L2.St → Hp → (Hp → Prop) → Prop} (hc : B.calm = true) (b1 : B.xe = NoE) (K : Kd e gens) (he : EmOk B acc e em) :
    ∀ (cs : List Cl) (c : Cl) (d : Nat), gens.drop d = (c :: cs).map Cl.c → Nested (c :: cs) → (∀ x ∈ c :: cs, ClOk B x) → (∀ x ∈ cs, PI B x.tg x.iter x.wi) → ∀ (pins : List (Addr × Obj)) (s : Shared) (σ : L2.St) (H : Hp) (it : Addr) (fp : List Addr) (tn : Nat → Heap → Prop) (J : It) (End : Hp → Prop) (R : Result → Shared → Prop),
      Turn B.prog B.w B.K c.tg J fp it tn → Inv B pins (wipe σ c.vs) H s → tn 0 s.heap → (∀ b ∈ fp, ∀ H', H' b = none → FpOk B pins H' b) → (∀ b ∈ fp, H b = none) → Lp J c.g c.tt c.vs (Rest em cs) σ H End →
      (∀ s' H', Inv B pins (wipe σ c.vs) H' s' → End H' → R (.ok .next) s') → codeAny (model B.prog B.w) B.A (.compLoop e d (.ref it) acc B.env) R s := by
  intro cs
  induction cs with
  | nil =>
    intro c d hdr _ hok _ pins s σ H it fp tn J End R T I st ffp nfp lp hR
    have k := hok c (List.mem_singleton.mpr rfl)
    have g0 : gens[d]? = some ⟨c.tg, c.iter, c.ifs, 0⟩ := by
      have q := congrArg (·[0]?) hdr
      rw [List.getElem?_drop] at q
      exact q
    have g1 : gens[d + 1]? = none := by
      have q := congrArg (·[1]?) hdr
      rw [List.getElem?_drop] at q
      exact q
    obtain ⟨W, ⟨m0, w0⟩, turn⟩ := lp
    refine loop_last K g0 g1 (fun n s' => ∃ i H', Inv B pins (wipe σ c.vs) H' s' ∧ tn i s'.heap ∧ (∀ b ∈ fp, H' b = none) ∧ W i n H') (fun n s' h => ?_) m0 ⟨0, H, I, st, nfp, w0⟩
    exact turn_ok (Dp := Emit B.prog B.w B.A B.env acc e) hc b1 k.pg k.pt T ffp (fun h k => emit_mono h k) (fun pins' s σ2 H3 Nx I q => emit_mono (Q := fun s' => ∃ H', Inv B pins' σ2 H' s' ∧ Nx H') (fun s' h => by obtain ⟨H', I', nx⟩ := h; exact ⟨σ2, H', I', wipe_knows σ2 c.vs, nx⟩) (he pins' s σ2 H3 Nx I q)) turn hR n s' h
  | cons c1 cs ih =>
    intro c d hdr nst hok hpi pins s σ H it fp tn J End R T I st ffp nfp lp hR
    have k := hok c List.mem_cons_self
    have k1 := hok c1 (List.mem_cons_of_mem _ List.mem_cons_self)
    have g0 : gens[d]? = some ⟨c.tg, c.iter, c.ifs, 0⟩ := by
      have q := congrArg (·[0]?) hdr
      rw [List.getElem?_drop] at q
      exact q
    have g1 : gens[d + 1]? = some ⟨c1.tg, c1.iter, c1.ifs, 0⟩ := by
      have q := congrArg (·[1]?) hdr
      rw [List.getElem?_drop] at q
      exact q
    have dr1 : gens.drop (d + 1) = (c1 :: cs).map Cl.c := by
      rw [← List.tail_drop, hdr]
      rfl
    obtain ⟨W, ⟨m0, w0⟩, turn⟩ := lp
    refine loop_more K g0 g1 k1.hs (fun n s' => ∃ i H', Inv B pins (wipe σ c.vs) H' s' ∧ tn i s'.heap ∧ (∀ b ∈ fp, H' b = none) ∧ W i n H') (fun n s' h => ?_) m0 ⟨0, H, I, st, nfp, w0⟩
    refine turn_ok (Dp := Deep B.prog B.w B.A B.env acc e d ⟨c1.tg, c1.iter, c1.ifs, 0⟩) hc b1 k.pg k.pt T ffp (fun h k => deep_mono h k) (fun pins' s9 σ8 H9 Nx I9 q9 => ?_) turn hR n s' h
    unfold Deep
    have run := (hpi c1 List.mem_cons_self).run pins' s9 σ8 H9 _ I9 q9
    rw [b1] at run
    refine thnF run fun xv s10 hx => thnF hx fun itv s11 h11 => ?_
    obtain ⟨it1, fp1, tn1, J1, H11, e1, I11, T1, st11, f11, lp1⟩ := h11
    subst e1
    have lp1' := ih c1 (d + 1) dr1 nst.2 (fun x hx => hok x (List.mem_cons_of_mem _ hx)) (fun x hx => hpi x (List.mem_cons_of_mem _ hx)) pins' s11 σ8 H11 it1 fp1 tn1 J1 Nx
      (fun r s' => match r with
        | .ok _ => ∃ σ9 H', Inv B pins' σ9 H' s' ∧ Knows (wipe σ8 c.vs) σ9 ∧ Nx H'
        | .error _ => False) T1 (I11.weak (wipe_length _ _) fun j v e => (wipe_some e).1) st11 (fun b hb H' hn => ⟨hn, (f11 b hb).2⟩) (fun b hb => (f11 b hb).1) lp1
      (fun s' H' I' nx => ⟨wipe σ8 c1.vs, H', I', wipe_wipe nst.1, nx⟩)
    exact start_any K g1 lp1' (T1.self B.A 0 _ _ _ st11 lp1')
end
end GC
set_option Elab.async false
set_option linter.all false
set_option maxRecDepth 100000
namespace GC
open PySem PySem.Spec PyProof.Rows L2
section
variable {X : Cx}
/-- a new object of a comprehension: o0 at its address -/
def NewOk (prog : Program) (w : World) (new : Sem Value) (o0 : Addr → HO) : Prop :=
  ∀ (A : Around) (E : Value → Shared → Prop) (s : Shared) (Q : Value → Shared → Prop), (∀ ob : Obj, (∀ H', sysModules < s.heap.objs.size → ObjOk prog w H' (s.heap.push ob) s.heap.objs.size (o0 s.heap.objs.size)) → Q (.ref s.heap.objs.size) { s with heap := s.heap.push ob }) →
    wpAny (model prog w) A new Q E s
/-- the reading: D the new object -/
def tCo (o0 : Addr → HO) (c : Cl) (cs : List Cl) (em : Addr → L2.St → Hp → (Hp → Prop) → Prop) : TE := fun σ H Q => c.wi σ H fun J H1 => ∀ D, H1 D = none → Lp J c.g c.tt c.vs (Rest (em D) cs) σ (upd H1 D (o0 D)) (fun H' => Q (.ref D) H')
abbrev Blk (X : Cx) (scope : Scope) (F : Cx → Prop) : Prop := ∀ (s : Shared) (H : Hp) (C : Addr) (cl : List (Str × Addr)) (fp : List Addr), F (X.blk s H scope (compEnvC scope cl C X.env) fp)
theorem core {pins : List (Addr × Obj)} {s : Shared} {σ : L2.St} {H : Hp} {Q : VK} {e : Expr} {scope : Scope} {own : List (Str × Nat)} {pos' : Pos} {new : Sem Value} {o0 : Addr → HO} {c : Cl} {cs : List Cl} {em : Addr → L2.St → Hp → (Hp → Prop) → Prop} {use : Option (Value → Sem Unit)} {Qf : Value → Shared → Prop}
    (K : Kd e ((c :: cs).map Cl.c)) (hnew : NewOk X.prog X.w new o0) (hc : X.calm = true) (hN : X.N.Nodup) (I : Inv X pins σ H s) (hi : PI X c.tg c.iter c.wi) (ok : BlkOk X.N X.env.scope scope own) (hvs : c.vs = own.map (·.2)) (hs : ∀ x, foldedSetIterable c.iter X.env x = pure x)
    (nst : Nested (c :: cs)) (hok : ∀ x ∈ c :: cs, Blk X scope fun B => ClOk B x) (hpi : ∀ x ∈ cs, Blk X scope fun B => PI B x.tg x.iter x.wi) (hem : ∀ D, Blk X scope fun B => EmOk B (.ref D) e (em D))
    (h : tCo o0 c cs em σ H Q) (hRR : ∀ D C s' m H', Inv X pins σ H' s' → Q (.ref D) H' → s'.heap.Ns C m → FpOk X pins H' C → compPost (model X.prog X.w) X.A X.xe use Qf (.ref D) C (.ok .next) s') :
    wpAny (model X.prog X.w) X.A (comprehension e scope X.env pos' new false (eval c.iter X.env) use) Qf X.xe s := by
  have clE : clausesOf e = c.c :: cs.map Cl.c := by cases K <;> rfl
  have hfree : ∀ y ∈ scope.names, y.2 = .free → ∃ a, X.env.cells.lookup y.1 = some a := fun y hy q => (ok.free y hy q).elim (fun k => I.ok.has _ (.inl k)) fun k => I.ok.has _ (.inr k)
  refine wpAny_comprehension_free (use := use) clE hs (closure_ok hfree) ok.kind (fun y hy q => by rw [ok.uniq y hy, q]) (thn (hi.run pins s σ H _ I h) fun xv s1 hx => thn hx fun itv s2 h2 => ?_)
  obtain ⟨it, fp, tn, J, H2, rfl, I2, T, st2, f2, q⟩ := h2
  refine hnew _ _ s2 _ fun ob hob => newEnv_comp ?_
  generalize hD : s2.heap.objs.size = D
  have hDn : H2 D = none := I2.hok.fresh (Nat.le_of_eq hD)
  have lp := q D hDn
  generalize hs3 : ({ s2 with heap := s2.heap.push ob } : Shared) = s3
  have h3 : s3.heap = s2.heap.push ob := by rw [← hs3]
  have I3 : Inv X pins σ (upd H2 D (o0 D)) s3 := by
    rw [← hs3]
    refine I2.laid (t' := s2.toks) (fun b o z => Heap.get?_push_of_some _ z) (Nat.le_of_eq hD) ?_
    rw [← hD]
    exact hob _ I2.big
  have sz : ∀ b ∈ fp, b < s2.heap.objs.size := fun b hb => let ⟨o, z, _⟩ := T.obj _ _ st2 b hb; Heap.lt_size z
  have f3 : ∀ b ∈ fp, FpOk X pins (upd H2 D (o0 D)) b ∧ b < s3.heap.objs.size := fun b hb => by
    refine ⟨⟨?_, (f2 b hb).2⟩, by rw [h3, Heap.size_push]; exact Nat.lt_succ_of_lt (sz b hb)⟩
    rw [upd_ne (by rw [← hD]; exact Nat.ne_of_lt (sz b hb))]
    exact (f2 b hb).1
  have I4 := block_start I3 ok hN f3
  have aok := fun x hx => hok x hx s3 (upd H2 D (o0 D)) s3.heap.objs.size (cellsFrom (s3.heap.objs.size + 1) scope.names (cloFrom X.env.cells scope.names [])) fp
  have api := fun x hx => hpi x hx s3 (upd H2 D (o0 D)) s3.heap.objs.size (cellsFrom (s3.heap.objs.size + 1) scope.names (cloFrom X.env.cells scope.names [])) fp
  have aem := hem D s3 (upd H2 D (o0 D)) s3.heap.objs.size (cellsFrom (s3.heap.objs.size + 1) scope.names (cloFrom X.env.cells scope.names [])) fp
  have nfp : ∀ b ∈ fp, (upd H2 D (o0 D)) b = none := fun b hb => (f3 b hb).1.1
  have cL : (compEnvC scope (cellsFrom (s3.heap.objs.size + 1) scope.names (cloFrom X.env.cells scope.names [])) s3.heap.objs.size X.env).locals = s3.heap.objs.size := rfl
  have h3z : ({ s2 with heap := s2.heap.push ob } : Shared).heap.objs.size = s3.heap.objs.size := by rw [hs3]
  have goal : codeAny (model X.prog X.w) X.A (.compStart e 0 (.ref it) (.ref D) (compEnvC scope (cellsFrom (s3.heap.objs.size + 1) scope.names (cloFrom X.env.cells scope.names [])) s3.heap.objs.size X.env)) (compPost (model X.prog X.w) X.A X.xe use Qf (.ref D) s3.heap.objs.size)
      { s3 with heap := pushCells (s3.heap.push { cls := .type "dict", data := .dict #[] }) scope.names } := by
    generalize compEnvC scope (cellsFrom (s3.heap.objs.size + 1) scope.names (cloFrom X.env.cells scope.names [])) s3.heap.objs.size X.env = ce at I4 aok api aem cL ⊢
    have st4 : tn 0 (pushCells (s3.heap.push { cls := .type "dict", data := .dict #[] }) scope.names) := T.keep _ _ _ st2 fun b _ o z => pushCells_keeps _ _ _ _ (Heap.get?_push_of_some _ (by rw [h3]; exact Heap.get?_push_of_some _ z))
    generalize hs4 : ({ s3 with heap := pushCells (s3.heap.push { cls := .type "dict", data := .dict #[] }) scope.names } : Shared) = s4 at I4 ⊢
    have st5 : tn 0 s4.heap := by rw [← hs4]; exact st4
    rw [← hvs] at I4
    have stat : ∀ b ∈ fp, ∀ H', H' b = none → FpOk (X.blk s3 (upd H2 D (o0 D)) scope ce fp) [] H' b := fun b hb H' hn => ⟨hn, (I4.ok.exf b hb).1, I4.ok.exfs b hb, .inl hb, fun x a z => (I4.ok.exf b hb).2 x a z, fun p hp => absurd (show p ∈ ([] : List (Addr × Obj)) ++ [] from hp) (by simp)⟩
    have loop := loop_ok (B := X.blk s3 (upd H2 D (o0 D)) scope ce fp) (acc := .ref D) hc rfl K aem cs c 0 rfl nst aok api [] s4 σ _ it fp tn J _ (compPost (model X.prog X.w) X.A X.xe use Qf (.ref D) s3.heap.objs.size) T I4 st5 stat nfp lp fun s6 H5 I6 qq => by
      have I7 : Inv X pins σ H5 s6 := I3.call' (ch := fp) I6.os I6.base I6.hok I6.bare fun b hb => ⟨(f3 b hb).1.2.2.2.1, (f3 b hb).1.2.1, (f3 b hb).1.2.2.2.2.1, (f3 b hb).1.2.2.2.2.2⟩
      have nC : H5 ce.locals = none := I6.free
      rw [cL] at nC
      obtain ⟨m, hn, _⟩ := I6.loc
      have hn : s6.heap.Ns ce.locals m := hn
      rw [cL] at hn
      exact hRR D s3.heap.objs.size s6 m H5 I7 qq hn (I3.fpOk (Nat.le_refl _) nC)
    exact start_any K rfl loop (T.self X.A 0 _ _ _ st5 loop)
  subst hs3 hD
  exact goal
theorem new_dT {P : Program} {w : World} : NewOk P w newDict fun _ => .dT [] := fun A E s Q h => wpAny_newObj_type (h _ fun H' hb => dt_empty s.heap hb)
theorem new_dK {P : Program} {w : World} : NewOk P w newDict fun _ => .dK [] := fun A E s Q h => wpAny_newObj_type (h _ fun H' hb => dk_empty s.heap hb)
/-- the end of a comprehension as a value -/
theorem back {pins : List (Addr × Obj)} {σ : L2.St} {Q : VK} (D C : Addr) (s' : Shared) (m : _) (H' : Hp) (I' : Inv X pins σ H' s') (q : Q (.ref D) H') (hn : s'.heap.Ns C m) (f : FpOk X pins H' C) :
    compPost (model X.prog X.w) X.A X.xe none (EP X pins σ Q) (.ref D) C (.ok .next) s' := by
  obtain ⟨f0, f1, f2, f3, f4, f5⟩ := f
  exact ⟨m, hn, fun h'' sb => ⟨.ref D, H', I'.turned (t' := s'.toks) (fun b o hb e => (sb.2 b hb).trans e) f0 f1 f3 f4 f5, rfl, q⟩⟩
/-- an entry goes to the new dict with tuple keys -/
def emT (tk tv : TE) (D : Addr) : L2.St → Hp → (Hp → Prop) → Prop := fun σ H Nx => tk σ H fun y H1 => tv σ H1 fun z H2 => ∃ kvs k b, y = .ref b ∧ H2 b = some (.tup (k.map kV)) ∧ H2 D = some (.dT kvs) ∧ kvs.length < sizeLine ∧ Nx (upd H2 D (.dT (putK kvs k z)))
/-- one whose keys are ints and texts -/
def emK (tk tv : TE) (D : Addr) : L2.St → Hp → (Hp → Prop) → Prop := fun σ H Nx => tk σ H fun y H1 => tv σ H1 fun z H2 => ∃ kvs k, y = kV k ∧ H2 D = some (.dK kvs) ∧ kvs.length < sizeLine ∧ Nx (upd H2 D (.dK (putK kvs k z)))
theorem d_setT {pins : List (Addr × Obj)} {σ : L2.St} {H : Hp} {s : Shared} {E : Value → Shared → Prop} {D b : Addr} {kvs : List (List Key × V)} {k : List Key} {v : V} {r : Value} {Q : Unit → Shared → Prop} (hu : X.A.units < cLine) (I : Inv X pins σ H s) (hD : H D = some (.dT kvs)) (hb : H b = some (.tup (k.map kV)))
    (hz : kvs.length < sizeLine) (rv : RelV v r) (h : ∀ s', Inv X pins σ (upd H D (.dT (putK kvs k v))) s' → Q () s') : wpAny (model X.prog X.w) X.A (dictSet D (.ref b) r) Q E s := by
  obtain ⟨z, hd, xs, rel, dd⟩ := dt_of I.hok hD
  have hzx : xs.length ≤ sizeLine := by rw [← Paired.length rel]; exact z
  have hl : (putK kvs k v).length ≤ sizeLine := Nat.le_trans (length_putK kvs k v) hz
  refine wpAny_dictSet_heap (hsz := hzx) (knd := tupleKind (mixKind X.prog X.w)) hu (key_of I.hok hb) dd fun h' dd' sb => h _ ?_
  obtain ⟨o, es, ep, ho, e1, e2, e3, _, e4⟩ := dd'
  exact d_write I (by rw [hD]; exact True.intro) sb ⟨o, ho⟩ ⟨hl, hd, _, (rel.put k hb rv).keeps fun a ys q => (by rw [upd_ne (ne_of q hD (fun z => nomatch z))]; exact q), o, es, ep, ho, e1, e2, e3, e4⟩
theorem emT_ok {B : Cx} {D : Addr} {k v : Expr} {gens : List Comprehension} {scope : Scope} {pos : Pos} {tk tv : TE} (b1 : B.xe = NoE) (hu : B.A.units < cLine) (hk : PE B k tk) (hv : PE B v tv) : EmOk B (.ref D) (.DictComp k v gens scope pos) (emT tk tv D) := by
  intro pins s σ H Nx I q
  have r := hk.run pins s σ H _ I q
  rw [b1] at r
  refine ⟨D, rfl, thnF r fun x s1 h => ?_⟩
  obtain ⟨y, H1, I1, r1, q1⟩ := h
  have r := hv.run pins s1 σ H1 _ I1 q1
  rw [b1] at r
  refine thnF r fun x2 s2 h => ?_
  obtain ⟨z, H2, I2, r2, kvs, kk, b, rfl, hb, hD, hz, nx⟩ := h
  cases r1
  exact d_setT hu I2 hD hb hz r2 fun s3 I3 => ⟨_, I3, nx⟩
theorem emK_ok {B : Cx} {D : Addr} {k v : Expr} {gens : List Comprehension} {scope : Scope} {pos : Pos} {tk tv : TE} (b1 : B.xe = NoE) (hk : PE B k tk) (hv : PE B v tv) : EmOk B (.ref D) (.DictComp k v gens scope pos) (emK tk tv D) := by
  intro pins s σ H Nx I q
  have r := hk.run pins s σ H _ I q
  rw [b1] at r
  refine ⟨D, rfl, thnF r fun x s1 h => ?_⟩
  obtain ⟨y, H1, I1, r1, q1⟩ := h
  have r := hv.run pins s1 σ H1 _ I1 q1
  rw [b1] at r
  refine thnF r fun x2 s2 h => ?_
  obtain ⟨z, H2, I2, r2, kvs, kk, rfl, hD, hz, nx⟩ := h
  exact d_dictSet I2 hD hz r1 r2 fun s3 I3 => ⟨_, I3, nx⟩
end
end GC
set_option Elab.async false
set_option linter.all false
set_option maxRecDepth 100000
namespace GC
open PySem PySem.Spec PyProof.Rows L2
section
variable {X : Cx}
/-- the clauses behind the first -/
structure Cls (X : Cx) (scope : Scope) (gens : List Comprehension) (cs : List Cl) : Prop where
  eq : gens = cs.map Cl.c
  ok : ∀ x ∈ cs, Blk X scope fun B => ClOk B x
  pi : ∀ x ∈ cs, Blk X scope fun B => PI B x.tg x.iter x.wi
theorem cl0 {scope : Scope} : Cls X scope [] [] := ⟨rfl, fun _ h => (by cases h), fun _ h => by cases h⟩
theorem pe_co {e tg iter : Expr} {ifs : List Expr} {gens : List Comprehension} {scope : Scope} {own : List (Str × Nat)} {pos : Pos} {new : Sem Value} {o0 : Addr → HO} {wi : TI} {g : TG} {tt : TT} {cs : List Cl} {em : Addr → L2.St → Hp → (Hp → Prop) → Prop} (hev : eval e X.env = comprehension e scope X.env pos new false (eval iter X.env) none)
    (K : Kd e (⟨tg, iter, ifs, 0⟩ :: gens)) (hnew : NewOk X.prog X.w new o0) (hc : X.calm = true) (hN : X.N.Nodup) (hi : PI X tg iter wi) (ok : BlkOk X.N X.env.scope scope own) (hg : Blk X scope fun B => PG B tg g) (ht : Blk X scope fun B => PTs B ifs tt) (r : Cls X scope gens cs)
    (nst : Nested (⟨tg, iter, ifs, wi, g, tt, own.map (·.2)⟩ :: cs)) (hem : ∀ D, Blk X scope fun B => EmOk B (.ref D) e (em D)) (hs : ∀ env x, foldedSetIterable iter env x = pure x) :
    PE X e (tCo o0 ⟨tg, iter, ifs, wi, g, tt, own.map (·.2)⟩ cs em) := by
  refine ⟨fun pins s σ H Q I h => ?_⟩
  rw [hev]
  have K' : Kd e ((⟨tg, iter, ifs, wi, g, tt, own.map (·.2)⟩ :: cs : List Cl).map Cl.c) := by
    have q := r.eq
    subst q
    exact K
  refine core K' hnew hc hN I hi ok rfl (hs _) nst (fun x hx => ?_) r.pi hem h fun D C s' m H' I' q hn f => back D C s' m H' I' q hn f
  rcases List.mem_cons.mp hx with rfl | hx
  · exact fun s H C cl fp => ⟨hg s H C cl fp, ht s H C cl fp, hs _⟩
  · exact r.ok x hx
/-- a dict comprehension, the keys tuples -/
theorem pe_dcT {k v tg iter : Expr} {ifs : List Expr} {gens : List Comprehension} {scope : Scope} {own : List (Str × Nat)} {pos : Pos} {wi : TI} {g : TG} {tt : TT} {tk tv : TE} {cs : List Cl} (hu : X.A.units < cLine) (hc : X.calm = true) (hN : X.N.Nodup) (hi : PI X tg iter wi) (ok : BlkOk X.N X.env.scope scope own)
    (hg : Blk X scope fun B => PG B tg g) (ht : Blk X scope fun B => PTs B ifs tt) (r : Cls X scope gens cs) (nst : Nested (⟨tg, iter, ifs, wi, g, tt, own.map (·.2)⟩ :: cs)) (hk : Blk X scope fun B => PE B k tk) (hv : Blk X scope fun B => PE B v tv) (hs : ∀ env x, foldedSetIterable iter env x = pure x := by intro _ _; rfl) :
    PE X (.DictComp k v (⟨tg, iter, ifs, 0⟩ :: gens) scope pos) (tCo (fun _ => .dT []) ⟨tg, iter, ifs, wi, g, tt, own.map (·.2)⟩ cs (emT tk tv)) :=
  pe_co rfl (.d ..) new_dT hc hN hi ok hg ht r nst (fun D s H C cl fp => emT_ok rfl hu (hk s H C cl fp) (hv s H C cl fp)) hs
/-- the keys ints and texts -/
theorem pe_dcK {k v tg iter : Expr} {ifs : List Expr} {gens : List Comprehension} {scope : Scope} {own : List (Str × Nat)} {pos : Pos} {wi : TI} {g : TG} {tt : TT} {tk tv : TE} {cs : List Cl} (hc : X.calm = true) (hN : X.N.Nodup) (hi : PI X tg iter wi) (ok : BlkOk X.N X.env.scope scope own)
    (hg : Blk X scope fun B => PG B tg g) (ht : Blk X scope fun B => PTs B ifs tt) (r : Cls X scope gens cs) (nst : Nested (⟨tg, iter, ifs, wi, g, tt, own.map (·.2)⟩ :: cs)) (hk : Blk X scope fun B => PE B k tk) (hv : Blk X scope fun B => PE B v tv) (hs : ∀ env x, foldedSetIterable iter env x = pure x := by intro _ _; rfl) :
    PE X (.DictComp k v (⟨tg, iter, ifs, 0⟩ :: gens) scope pos) (tCo (fun _ => .dK []) ⟨tg, iter, ifs, wi, g, tt, own.map (·.2)⟩ cs (emK tk tv)) :=
  pe_co rfl (.d ..) new_dK hc hN hi ok hg ht r nst (fun D s H C cl fp => emK_ok rfl (hk s H C cl fp) (hv s H C cl fp)) hs
/-- a clause's loop over a walk -/
theorem lp_it {J : It} {n : Nat} {G : Hp → Prop} {Y : Nat → Hp → V → Hp → Prop} (w : Walk J n G Y) {g : TG} {tt : TT} {vs : List Nat} {D : L2.St → Hp → (Hp → Prop) → Prop} {σ : L2.St} {H : Hp} {End : Hp → Prop} (Pv : Nat → Hp → Prop) (h0 : Pv 0 H) (hG : ∀ i H, i ≤ n → Pv i H → G H)
    (hs : ∀ i x H H', i < n → Pv i H → Y i H x H' → g x (wipe σ vs) H' fun σ2 H2 => wipe σ2 vs = wipe σ vs ∧ tt σ2 H2 fun b H3 => if b = true then D σ2 H3 (Pv (i + 1)) else Pv (i + 1) H3) (hd : ∀ H, Pv n H → End H) : Lp J g tt vs D σ H End := by
  refine ⟨fun i m H => m = n - i ∧ i ≤ n ∧ Pv i H, ⟨n, by simp, Nat.zero_le _, h0⟩, ?_⟩
  rintro i m H ⟨rfl, hi, p⟩
  have q := hG i H hi p
  rcases Nat.lt_or_ge i n with hlt | hge
  · exact .inr ⟨w.goes i H hlt q, Pv (i + 1), fun H' p' => ⟨n - (i + 1), by omega, rfl, hlt, p'⟩, fun x H' y => hs i x H H' hlt p (w.yields i H x H' hlt q y)⟩
  · obtain rfl : i = n := by omega
    exact .inl ⟨w.stops H q, hd H p⟩
end
end GC
set_option Elab.async false
set_option linter.all false
set_option maxRecDepth 100000
set_option maxHeartbeats 2000000
namespace TxS
open PySem PySem.Spec PyProof.Rows L2
/-- the entry of a text -/
def Ent (w : World) (e : Int × Value) (x : Str) : Prop := ∃ t, e = (hashStr w x, Value.str x t)
def TxSet (w : World) (h : Heap) (a : Addr) (L : List Str) : Prop :=
  ∃ (o : Obj) (es : Array (Int × Value)) (ep : Nat) (t : SetTable) (ks : List Str), h.get? a = some o ∧ o.ExactSet ∧ o.data = .set es ep t ∧ Paired (Ent w) es.toList ks ∧ ks.Perm L ∧ L.Nodup ∧ es.size < scanBound ∧ t.fits es.size = true ∧
    Ris t.place.toList ∧ (w.params.followText "set-order" = true ∨ t.led = true)
section
variable {P : Program} {w : World} {A : Around} {E : Value → Shared → Prop} {s : Shared} {a : Addr} {L : List Str}
theorem TxSet.lt {h : Heap} (R : TxSet w h a L) : a < h.objs.size := let ⟨_, _, _, _, _, ho, _⟩ := R; Heap.lt_size ho
theorem TxSet.at {h h' : Heap} (R : TxSet w h a L) (k : ∀ o, h.get? a = some o → h'.get? a = some o) : TxSet w h' a L := let ⟨o, es, ep, t, ks, ho, r⟩ := R; ⟨o, es, ep, t, ks, k o ho, r⟩
theorem TxSet.typeIs (R : TxSet w s.heap a L) : s.TypeIs (.ref a) "set" := let ⟨o, _, _, _, _, ho, hx, _⟩ := R; ⟨o, ho, hx.1⟩
/-- what the set holds behind an add -/
def added (L : List Str) (k : Str) : List Str := if k ∈ L then L else L ++ [k]
theorem fresh {h : Heap} (w : World) : TxSet w (h.push { cls := .type "set", dict := none, data := .set #[] 0 (.fresh 0 0 (!w.params.followText "set-order")) }) h.objs.size [] :=
  ⟨_, #[], 0, _, [], Heap.get?_push_size _ rfl, ⟨rfl, rfl, rfl⟩, rfl, .nil, .refl _, .nil, by decide, by rfl, List.Pairwise.nil, by
    show _ ∨ (!w.params.followText "set-order") = true
    cases w.params.followText "set-order" <;> simp⟩
end
end TxS
set_option Elab.async false
set_option linter.all false
set_option maxRecDepth 100000
set_option maxHeartbeats 2000000
namespace SmR
open PySem PySem.Spec PySem.W PyProof.Rows L2
section
variable {X : Cx}
/-- the signs of a text, each a text -/
def signs (z : Str) : List Str := z.cps.toList.map fun c => ⟨#[c]⟩
theorem vals_signs {z : Str} : ∀ {us : List Value} {cs : List Nat}, us.length = cs.length → (∀ (j : Nat) v, us[j]? = some v → ∃ c u, cs[j]? = some c ∧ v = Value.str ⟨#[c]⟩ u) → Vals ((cs.map fun c => (⟨#[c]⟩ : Str)).map V.str) us
  | [], [], _, _ => .nil
  | [], _ :: _, h, _ => by cases h
  | _ :: _, [], h, _ => by cases h
  | u :: us, c :: cs, h, k => by
    obtain ⟨c', t, e1, e2⟩ := k 0 u rfl
    cases e1
    exact .cons ⟨t, e2⟩ (vals_signs (z := z) (Nat.succ.inj h) fun j v e => k (j + 1) v e)
theorem cr_listStr (hc : X.calm = true) : CallR X (.type "list") (fun vs H Q => ∃ z : Str, vs = [.str z] ∧ z.length ≤ 1000 ∧ ∀ p, H p = none → Q (.ref p) (upd H p (.lst ((signs z).map V.str)))) := by
  intro pins s σ H vs us Q I r h
  obtain ⟨z, rfl, few, q⟩ := h
  obtain ⟨u, rfl, t, rfl⟩ := vals1 r
  have hz : z.cps.size ≤ sizeLine := by
    rw [sizeLine_eq]
    exact Nat.le_trans few (by decide)
  refine call_list_str (hn := hz) (I.ok.hd hc) z t fun h' tk acc c hk hS hacc => ?_
  have hn : H s.heap.objs.size = none := I.hok.fresh (Nat.le_refl _)
  have lz : ((signs z).map V.str).length = z.cps.size := by unfold signs; rw [List.length_map, List.length_map, Array.length_toList]
  refine ⟨.ref s.heap.objs.size, _, I.laid (o := .lst ((signs z).map V.str)) (t' := tk) (fun b o e => hk b o e) (Nat.le_refl _) ⟨by rw [lz]; exact hz, acc.toList, c, ?_, by rw [Array.toArray_toList]; exact hS⟩, rfl, q _ hn⟩
  refine vals_signs (z := z) (by rw [Array.length_toList, Array.length_toList]; exact hacc.1) fun j v e => ?_
  obtain ⟨cc, u, e1, e2⟩ := hacc.2 j v (by rw [← Array.getElem?_toList]; exact e)
  exact ⟨cc, u, by rw [Array.getElem?_toList]; exact e1, e2⟩
theorem op_mulSI : OpR X (binaryOp .Mult) (fun x y H Q => ∃ (z : Str) (n : Int), x = .str z ∧ y = .int n ∧ MulOk z n ∧ Q (.str (Txt.mul z n)) H) := by
  intro pins s σ H x y v u Q I rx ry h
  obtain ⟨z, n, rfl, rfl, ok, q⟩ := h
  obtain ⟨t, rfl⟩ := rx
  obtain ⟨t2, rfl⟩ := ry
  exact SB.mul ok fun t' k => ⟨.str (Txt.mul z n), H, I.tok k, ⟨t', rfl⟩, q⟩
end
end SmR
set_option Elab.async false
set_option maxRecDepth 100000
namespace KT
open PySem L2 PyProof.Rows
/-- the built-in names that the law leaves alone -/
structure Blt (mg : Str → Option Value) : Prop where
  int : mg "int" = none
  max : mg "max" = none
  min : mg "min" = none
  sum : mg "sum" = none
  len : mg "len" = none
  range : mg "range" = none
/-- a def of the text as its callers know it -/
structure Cee (P : Program) (w : World) (K : PySem.W.Frag) (mg : Str → Option Value) (base : Heap) (k : Nat) (x : Str) (ps : List Str) (sp : Sp) : Prop where
  ex : ∃ (f : Addr) (fd : FuncData), FnOk P w K mg base CX0 k f fd ps sp ∧ mg x = some (.ref f) ∧ PySem.W.keepIn K (.ref f) = true ∧ Binds K fd ps []
section
variable {X : Cx} {k j : Nat} {x : Str} {ps : List Str} {sp : Sp} {p pos : Pos} {e : Expr} {es : List Expr} {t : TA}
theorem pe_c (C : Cee X.prog X.w X.K X.mg X.base k x ps sp) (hr : Room j X.A) (hg : Gl X x) (ha : PA X (e :: es) t) (hkj : k ≤ j := by decide)
    (hdb : (x == ("__debug__" : Str)) = false := by decide) (he : starEach (e :: es) X.env = (false, eval e X.env) :: starEach es X.env := by rfl) (hpl : (backTo pos (starEach es X.env)).any (·.1) = false := by rfl) :
    PE X (.Call (.Name x p) (e :: es) [] pos) (tCall sp [] E0 t) := by
  obtain ⟨f, fd, F, m, kp, b⟩ := C.ex
  exact pe_call F (hr.mono hkj) hg m kp b .nil pass0 ha hdb he hpl
/-- ** of an int of any size to a written power -/
theorem op_powW : OpR X (binaryOp .Pow) (rI (fun i j => 0 ≤ j ∧ (Builtin.Int.intBits i : Int) * j ≤ 2 ^ 27) fun i j => .int (i ^ j.toNat)) := opI fun _ _ _ _ _ _ _ hc q => pow_int hc.1 hc.2 q
end
def PurseAt (H : Hp) (p : Addr) (B : Int) : Prop := ∃ a b c d : Int, H p = some (.lst [.int a, .int b, .int c, .int d]) ∧ 0 ≤ b ∧ b < 2147483629 ∧ 0 ≤ c ∧ c ≤ B
/-- all but what stands at p is as it was -/
def But (p : Addr) (H H' : Hp) : Prop := ∀ b o, b ≠ p → H b = some o → H' b = some o
theorem But.refl (p : Addr) (H : Hp) : But p H H := fun _ _ _ h => h
theorem But.trans {p : Addr} {H H1 H2 : Hp} (a : But p H H1) (b : But p H1 H2) : But p H H2 := fun c o n h => b c o n (a c o n h)
theorem But.upd {p : Addr} {H H1 : Hp} {o : HO} (a : But p H H1) : But p H (upd H1 p o) := fun c u n h => by
  rw [upd_ne n]
  exact a c u n h
theorem But.new {p q : Addr} {H H1 : Hp} {o : HO} (a : But p H H1) (hq : H1 q = none) : But p H (L2.upd H1 q o) := fun c u n h => by
  rw [upd_ne (ne_of_none (a c u n h) hq)]
  exact a c u n h
def spPurse (K : PySem.W.Frag) : Sp := fun vs H Q _ => ∃ (a : Addr) (ns : List Int) (i : Nat), vs = [.ref a, .int i] ∧ SqL K H a (ns.map V.int) ∧ i ≤ 63 ∧ ∀ (p : Addr) (H' : Hp), Same H H' → H p = none → PurseAt H' p 0 → Q (.ref p) H'
def spMixed : Sp := fun vs H Q _ => ∃ s n t : Int, vs = [.int s, .int n, .int t] ∧ -(2 ^ 64) < n ∧ n < 2 ^ 64 ∧ ∀ r : Int, Q (.int r) H
def spDraw : Sp := fun vs H Q _ => ∃ (p : Addr) (m B : Int), vs = [.ref p, .int m] ∧ PurseAt H p B ∧ 0 ≤ B ∧ B ≤ 1000000 ∧ 0 < m ∧ m < 2 ^ 110 ∧ ∀ (r : Int) (H' : Hp), But p H H' → PurseAt H' p (B + 4) → 0 ≤ r → r < m → Q (.int r) H'
section
variable {P : Program} {w : World} {K : PySem.W.Frag} {mg : Str → Option Value} {base : Heap}
theorem scMixed : FnScope ["_law_seed", "_law_spin", "_law_at", "_law_mixed_here"] ["_law_seed", "_law_spin", "_law_at"] (defScope sMixed) := ⟨rfl, rfl, rfl, by decide +kernel, rfl, by decide +kernel, by decide +kernel⟩
theorem ok_mixed {f : Addr} {fd : FuncData} (F : Fun K "_law_mixed" "_law_mixed" sMixed f fd) (T : Blt mg) : FnOk P w K mg base CX0 1 f fd ["_law_seed", "_law_spin", "_law_at"] spMixed := by
  refine F.ok scMixed (fun vs H Q E h => ?_) (fun cdv A outer s H vs Q E hr h => ?_)
  · obtain ⟨s, n, t, rfl, _⟩ := h
    rfl
  · obtain ⟨s, n, t, rfl, n1, n2, k⟩ := h
    refine ⟨_, pss_cons (ps_set (i := 3) scMixed.nd rfl (Or.inl rfl) (pe_op op_add (pe_op op_mul (pv 0) pe_int) (pe_op op_mul (pe_op op_mul pe_int (pv 1)) (pv 1))))
      (pss_cons (ps_set (i := 3) scMixed.nd rfl (Or.inl rfl) (pe_op op_mod (pe_callTy call_int1 (by rfl) T.int boot_int (pa_cons (pe_op op_add (pe_op op_add (pv 3) (pe_op op_mul pe_int (pv 2))) (pv 1)) pa_nil)) pe_int))
      (pss_cons (ps_set (i := 3) scMixed.nd rfl (Or.inl rfl) (pe_op op_mod (pe_callTy call_int1 (by rfl) T.int boot_int (pa_cons (pe_op op_add (pe_op op_mul (pv 3) (pv 3)) pe_int) pa_nil)) pe_int))
      (pss_one (ps_ret (pe_op op_mod (pe_callTy call_int1 (by rfl) T.int boot_int (pa_cons (pe_op op_mul (pv 3) pe_int) pa_nil)) pe_int))))), ?_⟩
    refine ⟨_, rfl, _, _, rfl, rfl, .inr (by decide), _, rfl, _, _, rfl, rfl, .inl (by decide), _, rfl, _, _, rfl, rfl, .inr ⟨n1, n2⟩, _, _, rfl, rfl, ?_⟩
    refine ⟨_, rfl, _, rfl, _, _, rfl, rfl, .inl (by decide), _, _, rfl, rfl, _, rfl, _, _, rfl, rfl, .inl ⟨_, rfl, _, _, rfl, rfl, (by show (0 : Int) < 2147483647; decide), ?_⟩⟩
    generalize hx : (s * 69069 + 104729 * n * n + 7919 * t + n) % 2147483647 = x
    have x1 : 0 ≤ x ∧ x < 2147483647 := by subst hx; omega
    refine ⟨_, rfl, _, rfl, _, _, rfl, rfl, .inl (by omega), _, _, rfl, rfl, .inl ⟨_, rfl, _, _, rfl, rfl, (by show (0 : Int) < 2147483629; decide), ?_⟩⟩
    exact ⟨_, rfl, _, _, rfl, rfl, .inr (by decide), .inl ⟨_, rfl, _, _, rfl, rfl, (by show (0 : Int) < 2147483587; decide), k _⟩⟩
theorem intBits_le110 {m : Int} (h : 0 < m) (h2 : m < 2 ^ 110) : (Builtin.Int.intBits m : Nat) / 28 ≤ 3 := by
  have b := PyProof.Rows.intBits_le (a := m) (k := 110) (by omega)
  omega
theorem scDraw : FnScope ["_law_purse_here", "_law_many", "_law_drawn", "_law_found", "_law_piece"] ["_law_purse_here", "_law_many"] (defScope sDraw) := ⟨rfl, rfl, rfl, by decide +kernel, rfl, by decide +kernel, by decide +kernel⟩
theorem ok_draw {f : Addr} {fd : FuncData} (F : Fun K "_law_draw" "_law_draw" sDraw f fd) (T : Blt mg) (M : Cee P w K mg base 1 "_law_mixed" ["_law_seed", "_law_spin", "_law_at"] spMixed) : FnOk P w K mg base CX0 2 f fd ["_law_purse_here", "_law_many"] spDraw := by
  refine F.ok scDraw (fun vs H Q E h => ?_) (fun cdv A outer s H vs Q E hr h => ?_)
  · obtain ⟨p, m, B, rfl, _⟩ := h
    rfl
  · obtain ⟨p, m, B, rfl, ⟨a, b, c, d, hp, b0, b1, c0, c1⟩, B0, B1, m0, m1, k⟩ := h
    have nd := scDraw.nd
    refine ⟨_, pss_cons (ps_if (pt_cmpR op_gt (pe_ix ix_list (pv 0) pe_int (fun _ _ => rfl)) pe_int (nomark _))
        (pss_cons (ps_set (i := 2) nd rfl (Or.inl rfl) (pe_op op_mod (pe_callTy call_int1 (by rfl) T.int boot_int (pa_cons (pe_ix ix_list (pv 0) pe_int (fun _ _ => rfl)) pa_nil)) (pv 1)))
          (pss_cons (ps_asg (pe_op op_fdivW (pe_ix ix_list (pv 0) pe_int (fun _ _ => rfl)) (pv 1)) (pg_sub (pv 0) pe_int set_list))
            (pss_one (ps_ret (pv 2)))))
        pss_nil)
      (pss_cons (ps_set (i := 3) nd rfl (Or.inl rfl) pe_int)
      (pss_cons (ps_for PassesOwn.never rfl (pi_range1 rfl T.range (pa_cons (pe_op op_add pe_int (pe_op op_fdiv (pe_bits (pv 1)) pe_int)) pa_nil)) (pg_name (i := 4) nd rfl (Or.inl rfl))
        (pss_cons (ps_asg (pe_op op_add (pe_ix ix_list (pv 0) pe_int (fun _ _ => rfl)) pe_int) (pg_sub (pv 0) pe_int set_list))
          (pss_one (ps_set (i := 3) nd rfl (Or.inl rfl) (pe_op op_add (pe_op op_mul (pv 3) pe_int)
            (pe_c M hr rfl (pa_cons (pe_ix ix_list (pv 0) pe_int (fun _ _ => rfl)) (pa_cons (pe_ix ix_list (pv 0) pe_int (fun _ _ => rfl)) (pa_cons (pe_ix ix_list (pv 0) pe_int (fun _ _ => rfl)) pa_nil)))))))))
      (pss_one (ps_ret (pe_op op_mod (pe_callTy call_int1 (by rfl) T.int boot_int (pa_cons (pv 3) pa_nil)) (pv 1)))))), ?_⟩
    have hS : SqL K H p [.int a, .int b, .int c, .int d] := SqL.of hp
    refine ⟨_, rfl, _, _, _, _, rfl, rfl, hS, atI_nat (j := 0) rfl, _, _, rfl, rfl, _, rfl, ?_⟩
    refine ite2 (fun _ => ?_) (fun _ => ?_)
    · refine ⟨_, rfl, _, _, _, _, rfl, rfl, hS, atI_nat (j := 0) rfl, .inl ⟨_, rfl, _, rfl, _, _, rfl, rfl, m0, ?_⟩⟩
      refine ⟨_, rfl, _, _, _, _, rfl, rfl, hS, atI_nat (j := 0) rfl, _, rfl, _, _, rfl, rfl, ⟨m0, ?_⟩, ?_⟩
      · exact Nat.lt_of_lt_of_le (PySem.Flt.log2_lt_of (k := 110) (by decide) (by omega)) (by decide)
      refine ⟨_, rfl, _, _, _, 0, rfl, rfl, hp, rfl, ?_⟩
      refine ⟨_, rfl, k _ _ ?_ ?_ ?_ ?_⟩
      · exact (But.refl p H).upd
      · exact ⟨_, _, _, _, upd_same, b0, b1, c0, by omega⟩
      · exact Int.emod_nonneg _ (by omega)
      · exact Int.emod_lt_of_pos _ m0
    · refine ⟨_, rfl, _, rfl, _, _, rfl, rfl, (by show (0 : Int) < 28 ∧ (28 : Int) < 1073741824; decide), _, _, rfl, rfl, _, rfl, ?_⟩
      have hb := intBits_le110 m0 m1
      generalize hn : (1 + ((Builtin.Int.intBits m : Nat) : Int) / 28) = n
      have n4 : n ≤ 4 := by omega
      have n0 : 0 ≤ n := by omega
      refine ⟨by omega, by omega, ?_⟩
      refine for_range (lo := 0) (n := n.toNat) (fun i σ H' => ∃ (fo : Int) (x2 x4 : Option V), σ = [some (.ref p), some (.int m), x2, some (.int fo), x4] ∧ But p H H' ∧ i ≤ 4 ∧
        ∃ a2 c2 : Int, H' p = some (.lst [.int a2, .int b, .int c2, .int d]) ∧ 0 ≤ c2 ∧ c2 ≤ c + i) ?_ ?_ ?_
      · exact ⟨0, _, _, rfl, But.refl p H, by omega, a, c, hp, c0, by omega⟩
      · rintro i σ H1 hi ⟨fo, x2, x4, rfl, bt, i4, a2, c2, h1, c20, c21⟩
        have h1S : SqL K H1 p [.int a2, .int b, .int c2, .int d] := SqL.of h1
        refine ⟨_, rfl, _, _, _, _, rfl, rfl, h1S, atI_nat (j := 2) rfl, _, _, rfl, rfl, _, rfl, _, _, _, 2, rfl, rfl, h1, rfl, ?_⟩
        have h2 : upd H1 p (.lst [.int a2, .int b, .int (c2 + 1), .int d]) p = some (.lst [.int a2, .int b, .int (c2 + 1), .int d]) := upd_same
        have h2S : SqL K (upd H1 p (.lst [.int a2, .int b, .int (c2 + 1), .int d])) p [.int a2, .int b, .int (c2 + 1), .int d] := SqL.of h2
        refine ⟨_, rfl, _, _, rfl, rfl, .inr (by decide), ?_⟩
        refine ⟨_, rfl, _, _, _, _, rfl, rfl, h2S, atI_nat (j := 1) rfl, ?_⟩
        refine ⟨_, rfl, _, _, _, _, rfl, rfl, h2S, atI_nat (j := 2) rfl, ?_⟩
        refine ⟨_, rfl, _, _, _, _, rfl, rfl, h2S, atI_nat (j := 3) rfl, ?_⟩
        refine ⟨_, _, _, rfl, by omega, by omega, fun r => ⟨_, _, rfl, rfl, ?_⟩⟩
        exact ⟨_, _, _, rfl, bt.upd, by omega, a2, c2 + 1, h2, by omega, by omega⟩
      · rintro σ H1 ⟨fo, x2, x4, rfl, bt, _, a2, c2, h1, c20, c21⟩
        refine ⟨_, rfl, .inl ⟨_, rfl, _, rfl, _, _, rfl, rfl, m0, ?_⟩⟩
        refine k _ _ bt ⟨_, _, _, _, h1, b0, b1, c20, by omega⟩ ?_ ?_
        · exact Int.emod_nonneg _ (by omega)
        · exact Int.emod_lt_of_pos _ m0
theorem cut_ints (ns : List Int) (lo hi : Option Int) : ∃ ms : List Int, cutV (ns.map V.int) lo hi = ms.map V.int := by
  unfold cutV
  rw [← List.map_drop, ← List.map_take]
  exact ⟨_, rfl⟩
theorem scPurse : FnScope ["_law_script", "_law_at", "_law_seed"] ["_law_script", "_law_at"] (defScope sPurse) := ⟨rfl, rfl, rfl, by decide +kernel, rfl, by decide +kernel, by decide +kernel⟩
theorem pow18 : CPow 10 18 := ⟨by decide, by decide, by decide⟩
theorem pow60 : CPow 10 60 := ⟨by decide, by decide, by decide⟩
theorem pow480 : (0 : Int) ≤ 8 ∧ (Builtin.Int.intBits ((10 : Int) ^ (60 : Int).toNat) : Int) * 8 ≤ 2 ^ 27 := by
  have b := PyProof.Rows.intBits_le (a := (10 : Int) ^ (60 : Int).toNat) (k := 300) (by decide +kernel)
  omega
theorem pos480 : (0 : Int) < ((10 : Int) ^ (60 : Int).toNat) ^ (8 : Int).toNat := by decide +kernel
theorem ok_purse {f : Addr} {fd : FuncData} (F : Fun K "_law_purse" "_law_purse" sPurse f fd) (T : Blt mg) : FnOk P w K mg base CX0 1 f fd ["_law_script", "_law_at"] (spPurse K) := by
  refine F.ok scPurse (fun vs H Q E h => ?_) (fun cdv A outer s H vs Q E hr h => ?_)
  · obtain ⟨a, ns, i, rfl, _⟩ := h
    rfl
  · obtain ⟨a, ns, i, rfl, hS, hi, k⟩ := h
    have nd := scPurse.nd
    refine ⟨_, pss_cons (ps_set (i := 2) nd rfl (Or.inl rfl) (pe_callB (cr_sum rfl) (by rfl) T.sum (by decide +kernel) (pa_cons (pe_slice sl_list (pv 0) (po_some (pv 1)) (po_some (pe_op op_add (pv 1) pe_int))) pa_nil)))
      (pss_one (ps_ret (pe_lst
        (pa_cons (pe_op op_mod (pe_callTy call_int1 (by rfl) T.int boot_int (pa_cons (pe_callB (call_max2 rfl) (by rfl) T.max boot_max (pa_cons (pe_op op_sub (pv 2) (pe_op op_pow pe_int pe_int)) (pa_cons pe_int pa_nil))) pa_nil)) (pe_op op_powW (pe_op op_pow pe_int pe_int) pe_int))
        (pa_cons (pe_op op_mod (pe_callTy call_int1 (by rfl) T.int boot_int (pa_cons (pv 2) pa_nil)) pe_int)
        (pa_cons pe_int (pa_cons (pv 1) pa_nil))))))), ?_⟩
    refine ⟨_, rfl, _, rfl, _, rfl, _, rfl, _, _, rfl, rfl, _, rfl, a, _, rfl, hS, fun p hp => ?_⟩
    obtain ⟨ms, hm⟩ := cut_ints ns (some (i : Int)) (some ((i : Int) + 1))
    have hpS : SqL K (upd H p (.lst (cutV (ns.map V.int) (some (i : Int)) (some ((i : Int) + 1))))) p (ms.map V.int) := SqL.of (by rw [← hm]; exact upd_same)
    refine ⟨p, ms, rfl, hpS, ?_⟩
    refine ⟨_, rfl, _, _, rfl, rfl, pow18, _, _, rfl, rfl, _, _, rfl, .inl ⟨_, rfl, ?_⟩⟩
    refine ⟨_, _, rfl, rfl, pow60, _, _, rfl, rfl, pow480, _, _, rfl, rfl, pos480, ?_⟩
    refine ⟨_, rfl, .inl ⟨_, rfl, _, _, rfl, rfl, (by show (0 : Int) < 2147483629; decide), ?_⟩⟩
    refine ⟨_, rfl, (by show 4 ≤ sizeLine; decide), fun q hq => ?_⟩
    have np : q ≠ p := fun e => by
      rw [e, upd_same] at hq
      cases hq
    have hq0 : H q = none := by
      rw [upd_ne np] at hq
      exact hq
    refine k q _ (fun b o e => ?_) hq0 ⟨_, _, _, _, upd_same, ?_, ?_, by decide, by decide⟩
    · rw [upd_ne (ne_of_none e hq0), upd_ne (ne_of_none e hp)]
      exact e
    · exact Int.emod_nonneg _ (by decide)
    · exact Int.emod_lt_of_pos _ (by decide)
def spOneOf : Sp := fun vs H Q _ => ∃ (p l : Addr) (xs : List V) (B : Int), vs = [.ref p, .ref l] ∧ p ≠ l ∧ PurseAt H p B ∧ 0 ≤ B ∧ B ≤ 1000000 ∧ H l = some (.lst xs) ∧ 0 < xs.length ∧ xs.length ≤ 1000 ∧
  ∀ (x : V) (H' : Hp), x ∈ xs → But p H H' → PurseAt H' p (B + 4) → Q x H'
theorem scOneOf : FnScope ["_law_purse_here", "_law_some"] ["_law_purse_here", "_law_some"] (defScope sOneOf) := ⟨rfl, rfl, rfl, by decide +kernel, rfl, by decide +kernel, by decide +kernel⟩
theorem ok_oneof {f : Addr} {fd : FuncData} (F : Fun K "_law_one_of" "_law_one_of" sOneOf f fd) (T : Blt mg) (D : Cee P w K mg base 2 "_law_draw" ["_law_purse_here", "_law_many"] spDraw) : FnOk P w K mg base CX0 3 f fd ["_law_purse_here", "_law_some"] spOneOf := by
  refine F.ok scOneOf (fun vs H Q E h => ?_) (fun cdv A outer s H vs Q E hr h => ?_)
  · obtain ⟨p, l, xs, B, rfl, _⟩ := h
    rfl
  · obtain ⟨p, l, xs, B, rfl, npl, hP, B0, B1, hl, l0, l1, k⟩ := h
    refine ⟨_, pss_one (ps_ret (pe_ix ix_list (pv 1) (pe_c D hr rfl (pa_cons (pv 0) (pa_cons (pe_callB call_len_seq (by rfl) T.len PySem.boot_len (pa_cons (pv 1) pa_nil)) pa_nil))) (fun _ _ => rfl))), ?_⟩
    refine ⟨_, rfl, _, rfl, _, rfl, l, _, rfl, .inl (SqL.of hl), ?_⟩
    refine ⟨p, _, B, rfl, hP, B0, B1, by omega, by omega, fun r H' bt hP' r0 r1 => ?_⟩
    obtain ⟨j, rfl⟩ : ∃ j : Nat, r = j := ⟨r.toNat, by omega⟩
    have hj : j < xs.length := by omega
    exact ⟨l, xs, _, xs[j], rfl, rfl, SqL.of (bt l _ npl.symm hl), atI_nat (by simp [hj]), k _ _ (List.getElem_mem hj) bt hP'⟩
/-- a word: one to eight letters from a to z -/
def Wd (x : Str) : Prop := 1 ≤ x.length ∧ x.length ≤ 8 ∧ ∀ c ∈ x.cps.toList, 97 ≤ c ∧ c ≤ 122
def Letter (x : Str) : Prop := ∃ c : Nat, x = ⟨#[c]⟩ ∧ 97 ≤ c ∧ c ≤ 122
theorem wd_join : ∀ ys : List Str, (∀ y ∈ ys, Letter y) → (Str.join ⟨#[]⟩ ys).length = ys.length ∧ ∀ c ∈ (Str.join ⟨#[]⟩ ys).cps.toList, 97 ≤ c ∧ c ≤ 122 := by
  intro ys
  induction ys with
  | nil => intro _; exact ⟨rfl, fun c hc => by cases hc⟩
  | cons y ys ih =>
    intro h
    obtain ⟨c, rfl, c1, c2⟩ := h y List.mem_cons_self
    obtain ⟨e1, e2⟩ := ih fun z hz => h z (List.mem_cons_of_mem _ hz)
    cases ys with
    | nil => exact ⟨rfl, fun d hd => by
        have : d = c := by simpa [Str.join] using hd
        omega⟩
    | cons z zs =>
      have e : Str.join ⟨#[]⟩ (⟨#[c]⟩ :: z :: zs) = (⟨#[c]⟩ : Str) ++ (⟨#[]⟩ : Str) ++ Str.join ⟨#[]⟩ (z :: zs) := rfl
      rw [e]
      refine ⟨?_, fun d hd => ?_⟩
      · rw [strLen_append, strLen_append, e1]
        show 1 + 0 + _ = _
        simp only [List.length_cons]
        omega
      · have hd' : d ∈ (c :: (Str.join ⟨#[]⟩ (z :: zs)).cps.toList) := by
          have : (((⟨#[c]⟩ : Str) ++ (⟨#[]⟩ : Str) ++ Str.join ⟨#[]⟩ (z :: zs)) : Str).cps.toList = c :: (Str.join ⟨#[]⟩ (z :: zs)).cps.toList := by
            show ((#[c] ++ #[]) ++ (Str.join ⟨#[]⟩ (z :: zs)).cps).toList = _
            simp
          rw [this] at hd
          exact hd
        rcases List.mem_cons.mp hd' with q | q
        · omega
        · exact e2 d q
theorem yes_if {σ : L2.St} {H : Hp} {A B : Hp → Prop} (h : A H) : tYes σ H (fun b H3 => if b = true then A H3 else B H3) := by
  unfold tYes
  dsimp only
  rw [if_pos rfl]
  exact h
def spWord : Sp := fun vs H Q _ => ∃ (p : Addr) (B : Int), vs = [.ref p] ∧ PurseAt H p B ∧ 0 ≤ B ∧ B ≤ 999000 ∧ ∀ (x : Str) (H' : Hp), Wd x → But p H H' → PurseAt H' p (B + 40) → Q (.str x) H'
theorem scWord : FnScope ["_law_purse_here", "_law_size", "_law_spin"] ["_law_purse_here"] (defScope sWord) := ⟨rfl, rfl, rfl, by decide +kernel, rfl, by decide +kernel, by decide +kernel⟩
theorem abc_at {j : Nat} (h : j < 26) : ∃ c, atI ("abcdefghijklmnopqrstuvwxyz" : Str).cps.toList (j : Int) = some c ∧ 97 ≤ c ∧ c ≤ 122 := by
  have e : ("abcdefghijklmnopqrstuvwxyz" : Str).cps.toList = (List.range 26).map (· + 97) := by decide +kernel
  refine ⟨j + 97, ?_, by omega, by omega⟩
  rw [e]
  exact atI_nat (by simp [h])
theorem ok_word {f : Addr} {fd : FuncData} (F : Fun K "_law_word" "_law_word" sWord f fd) (T : Blt mg) (D : Cee P w K mg base 2 "_law_draw" ["_law_purse_here", "_law_many"] spDraw) : FnOk P w K mg base CX0 3 f fd ["_law_purse_here"] spWord := by
  refine F.ok scWord (fun vs H Q E h => ?_) (fun cdv A outer s H vs Q E hr h => ?_)
  · obtain ⟨p, B, rfl, _⟩ := h
    rfl
  · obtain ⟨p, B, rfl, hP, B0, B1, k⟩ := h
    have nd := scWord.nd
    refine ⟨_, pss_cons (ps_set (i := 1) nd rfl (Or.inl rfl) (pe_op op_add pe_int (pe_c D hr rfl (pa_cons (pv 0) (pa_cons
        (pe_ifExp (pt_cmpR op_eq (pe_c D hr rfl (pa_cons (pv 0) (pa_cons pe_int pa_nil))) pe_int (nomark _)) pe_int pe_int) pa_nil)))))
      (pss_one (ps_ret (pe_join pe_str
        (pe_lc (own := [("_law_spin", 2)]) (g := gName 2) (tt := tYes) rfl nd (pi_range1 (by rfl) T.range (pa_cons (pv 1) pa_nil)) (blkOk_by (own := [("_law_spin", 2)]) (N := ["_law_purse_here", "_law_size", "_law_spin"]) (sc := defScope sWord) (by decide +kernel))
          (fun _ _ _ _ _ => pg_name (i := 2) nd rfl (Or.inl rfl)) (fun _ _ _ _ _ => pts_nil)
          (fun _ _ _ _ _ => pe_ix ix_str pe_str (pe_c D hr rfl (pa_cons (pv 0) (pa_cons pe_int pa_nil))) (fun _ _ => rfl)))))), ?_⟩
    refine ⟨_, rfl, _, rfl, p, 3, B, rfl, hP, B0, by omega, by decide, by decide, fun r1 H1 bt1 P1 r10 r11 => ?_⟩
    refine ⟨rfl, _, rfl, ?_⟩
    have B0' : (0 : Int) ≤ B + 4 := by omega
    refine ite2 (fun _ => ?_) (fun _ => ?_)
    all_goals
      refine ⟨p, _, B + 4, rfl, P1, B0', by omega, by decide, by decide, fun r2 H2 bt2 P2 r20 r21 => ?_⟩
      refine ⟨_, _, rfl, rfl, ⟨_, rfl⟩, _, rfl, _, rfl, by omega, by omega, fun D hD => ?_⟩
      have ndp : D ≠ p := fun e => by
        obtain ⟨_, _, _, _, q, _⟩ := P2
        rw [← e, hD] at q
        cases q
      refine lc_range (lo := 0) (n := (1 + r2).toNat) (fun i H' => But p H H' ∧ i ≤ 8 ∧ PurseAt H' p (B + 8 + 4 * i) ∧ ∃ ys : List Str, ys.length = i ∧ (∀ y ∈ ys, Letter y) ∧ H' D = some (.lst (ys.map V.str))) ?_ ?_ ?_
      · refine ⟨(bt1.trans bt2).new hD, by omega, ?_, [], rfl, fun y hy => by (cases hy), upd_same⟩
        obtain ⟨a, b, c, d, q, q1, q2, q3, q4⟩ := P2
        exact ⟨a, b, c, d, by rw [upd_ne ndp.symm]; exact q, q1, q2, q3, by omega⟩
      · rintro i H3 hi ⟨bt3, i8, P3, ys, yl, yL, hD3⟩
        refine ⟨rfl, yes_if ?_⟩
        refine ⟨_, rfl, p, 26, _, rfl, P3, by omega, by omega, by decide, by decide, fun r H4 bt4 P4 r0 r1 => ?_⟩
        obtain ⟨j, rfl⟩ : ∃ j : Nat, r = j := ⟨r.toNat, by omega⟩
        obtain ⟨c, hc, c1, c2⟩ := abc_at (j := j) (by omega)
        refine ⟨_, _, c, rfl, rfl, (by decide +kernel), hc, _, bt4 D _ ndp hD3, ?_, ?_⟩
        · rw [List.length_map, yl]
          exact small1000 (by omega)
        · refine ⟨?_, by omega, ?_, ys ++ [⟨#[c]⟩], by simp [yl], ?_, ?_⟩
          · intro b o n h
            have h4 := bt4 b o n (bt3 b o n h)
            have nbD : b ≠ D := ne_of_none ((bt1.trans bt2) b o n h) hD
            rw [upd_ne nbD]
            exact h4
          · obtain ⟨a, b, c, d, q, q1, q2, q3, q4⟩ := P4
            exact ⟨a, b, c, d, by rw [upd_ne ndp.symm]; exact q, q1, q2, q3, by omega⟩
          · intro y hy
            rcases List.mem_append.mp hy with h | h
            · exact yL y h
            · exact ⟨c, List.mem_singleton.mp h, c1, c2⟩
          · rw [List.map_append]
            exact upd_same
      · rintro H3 ⟨bt3, i8, P3, ys, yl, yL, hD3⟩
        obtain ⟨w1, w2⟩ := wd_join ys yL
        refine ⟨_, D, ys, rfl, rfl, .inl (SqL.of hD3), ?_, ?_⟩
        · have e : ∀ zs : List Str, (∀ y ∈ zs, Letter y) → (zs.map (·.length)).sum = zs.length := by
            intro zs
            induction zs with
            | nil => intro _; rfl
            | cons z zs ih =>
              intro h
              obtain ⟨c, rfl, _⟩ := h z List.mem_cons_self
              rw [List.map_cons, List.sum_cons, ih fun y hy => h y (List.mem_cons_of_mem _ hy), List.length_cons]
              show 1 + _ = _
              omega
          rw [e ys yL]
          show ys.length + ys.length * 0 ≤ _
          omega
        · have ej : Txt.join ("" : Str) ys = Str.join ⟨#[]⟩ ys := TL.join_eq _ _
          show Q (.str (Txt.join ("" : Str) ys)) H3
          rw [ej]
          refine k _ _ ⟨by omega, by omega, w2⟩ bt3 ?_
          obtain ⟨a, b, c, d, q, q1, q2, q3, q4⟩ := P3
          exact ⟨a, b, c, d, q, q1, q2, q3, by omega⟩
end
theorem Same.new {H : Hp} {p : Addr} {o : HO} (h : H p = none) : L2.Same H (upd H p o) := fun b u e => by
  rw [upd_ne (ne_of_none e h)]
  exact e
def spPurses (K : PySem.W.Frag) : Sp := fun vs H Q _ => ∃ (a : Addr) (ns : List Int) (m : Int), vs = [.ref a, .int m] ∧ SqL K H a (ns.map V.int) ∧ ns.length ≤ 63 ∧ 1 ≤ m ∧ m ≤ 60 ∧
  ∀ (l : Addr) (ps : List Addr) (H' : Hp), L2.Same H H' → H' l = some (.lst (ps.map V.ref)) → (∀ p ∈ ps, PurseAt H' p 0 ∧ H p = none ∧ p ≠ l) → ps.Nodup → ps ≠ [] → (ps.length : Int) ≤ m → Q (.ref l) H'
section
variable {P : Program} {w : World} {K : PySem.W.Frag} {mg : Str → Option Value} {base : Heap}
theorem PurseAt.mono {H H' : Hp} {p : Addr} {B : Int} (s : L2.Same H H') (h : PurseAt H p B) : PurseAt H' p B := by
  obtain ⟨a, b, c, d, q, r⟩ := h
  exact ⟨a, b, c, d, s _ _ q, r⟩
theorem scPurses : FnScope ["_law_script", "_law_few", "_law_at"] ["_law_script", "_law_few"] (defScope sPurses) := ⟨rfl, rfl, rfl, by decide +kernel, rfl, by decide +kernel, by decide +kernel⟩
theorem ok_purses {f : Addr} {fd : FuncData} (F : Fun K "_law_purses" "_law_purses" sPurses f fd) (B : Blt mg) (Pu : Cee P w K mg base 1 "_law_purse" ["_law_script", "_law_at"] (spPurse K)) : FnOk P w K mg base CX0 2 f fd ["_law_script", "_law_few"] (spPurses K) := by
  refine F.ok scPurses (fun vs H Q E h => ?_) (fun cdv A outer s H vs Q E hr h => ?_)
  · obtain ⟨a, ns, m, rfl, _⟩ := h
    rfl
  · obtain ⟨a, ns, m, rfl, hS, few, m1, m2, k⟩ := h
    have nd := scPurses.nd
    refine ⟨_, pss_one (ps_ret (pe_lc (own := [("_law_at", 2)]) (g := gName 2) (tt := tYes) (te := tCall (spPurse K) [] E0 (tCons (tVar 0) (tCons (tVar 2) tNil))) rfl nd
      (pi_range1 (by rfl) B.range (pa_cons (pe_callB (call_max2 rfl) (by rfl) B.max boot_max (pa_cons pe_int (pa_cons (pe_callB (call_min2 rfl) (by rfl) B.min (by decide +kernel) (pa_cons (pv 1) (pa_cons (pe_callB call_len_seq (by rfl) B.len PySem.boot_len (pa_cons (pv 0) pa_nil)) pa_nil))) pa_nil))) pa_nil))
      (blkOk_by (own := [("_law_at", 2)]) (N := ["_law_script", "_law_few", "_law_at"]) (sc := defScope sPurses) (by decide +kernel))
      (fun _ _ _ _ _ => pg_name (i := 2) nd rfl (Or.inl rfl)) (fun _ _ _ _ _ => pts_nil) (fun _ _ _ _ _ => pe_c Pu hr rfl (pa_cons (pv 0) (pa_cons (pv 2) pa_nil))))), ?_⟩
    refine ⟨_, rfl, _, rfl, _, _, rfl, .inl hS, _, _, rfl, _, _, rfl, ?_⟩
    generalize hn : (if (if (((ns.map V.int).length : Nat) : Int) < m then (((ns.map V.int).length : Nat) : Int) else m) > 1 then (if (((ns.map V.int).length : Nat) : Int) < m then (((ns.map V.int).length : Nat) : Int) else m) else 1) = n
    have n1 : 1 ≤ n ∧ n ≤ m := by
      subst hn
      split <;> split <;> omega
    refine ⟨_, rfl, by omega, by omega, fun R hR => ?_⟩
    refine lc_range (lo := 0) (n := n.toNat) (fun i H' => L2.Same H H' ∧ ∃ ps : List Addr, ps.length = i ∧ H' R = some (.lst (ps.map V.ref)) ∧ (∀ p ∈ ps, PurseAt H' p 0 ∧ H p = none ∧ p ≠ R) ∧ ps.Nodup) ?_ ?_ ?_
    · exact ⟨Same.new hR, [], rfl, upd_same, fun p hp => by (cases hp), List.nodup_nil⟩
    · rintro i H1 hi ⟨s1, ps, pl, h1, hp, pnd⟩
      refine ⟨rfl, yes_if ?_⟩
      refine ⟨_, rfl, _, rfl, a, ns, i, ?_, s1.seq hS, by omega, fun p H2 s2 hp0 P2 => ?_⟩
      · rw [Int.zero_add]
        rfl
      · have hH : H p = none := s1.free hp0
        have pR : p ≠ R := fun e => by
          rw [e, h1] at hp0
          cases hp0
        have hR2 : H2 R = some (.lst (ps.map V.ref)) := s2 _ _ h1
        refine ⟨_, hR2, ?_, ?_, ps ++ [p], by simp [pl], ?_, ?_, ?_⟩
        · rw [List.length_map, pl]
          exact small1000 (by omega)
        · intro b o e
          rw [upd_ne (ne_of_none e hR)]
          exact s2 _ _ (s1 _ _ e)
        · rw [List.map_append]
          exact upd_same
        · intro q hq
          have keep : ∀ {q : Addr}, PurseAt H2 q 0 → q ≠ R → PurseAt (upd H2 R (.lst (ps.map V.ref ++ [.ref p]))) q 0 := by
            rintro q ⟨a, b, c, d, e, r⟩ nq
            exact ⟨a, b, c, d, by rw [upd_ne nq]; exact e, r⟩
          rcases List.mem_append.mp hq with h | h
          · obtain ⟨x1, x2, x3⟩ := hp q h
            exact ⟨keep (x1.mono s2) x3, x2, x3⟩
          · have e := List.mem_singleton.mp h
            subst e
            exact ⟨keep P2 pR, hH, pR⟩
        · refine List.nodup_append.mpr ⟨pnd, by simp, fun x hx y hy e => ?_⟩
          have e2 := List.mem_singleton.mp hy
          subst e2
          subst e
          obtain ⟨⟨a1, b1, c1, d1, q, _⟩, _⟩ := hp x hx
          rw [q] at hp0
          cases hp0
    · rintro H1 ⟨s1, ps, pl, h1, hp, pnd⟩
      refine k R ps H1 s1 h1 hp pnd (fun e => ?_) (by omega)
      rw [e] at pl
      simp at pl
      omega
end
end KT
set_option Elab.async false
set_option linter.all false
set_option maxRecDepth 100000
set_option maxHeartbeats 4000000
namespace KT
open PySem L2 PyProof.Rows
theorem But.fresh {p q : Addr} {H H1 : Hp} {o : HO} (a : But p H H1) (hq : H q = none) : But p H (L2.upd H1 q o) := fun c u n h => by
  rw [upd_ne (ne_of_none h hq)]
  exact a c u n h
theorem But.same {p : Addr} {H H1 H2 : Hp} (a : But p H H1) (s : L2.Same H1 H2) : But p H H2 := fun c u n h => s _ _ (a c u n h)
theorem Same.but {p : Addr} {H H1 H2 : Hp} (s : L2.Same H H1) (a : But p H1 H2) : But p H H2 := fun c u n h => a c u n (s _ _ h)
theorem Same.asBut {p : Addr} {H H1 : Hp} (s : L2.Same H H1) : But p H H1 := fun c u _ h => s _ _ h
theorem PurseAt.le {H : Hp} {p : Addr} {B B' : Int} (h : PurseAt H p B) (k : B ≤ B') : PurseAt H p B' := by
  obtain ⟨a, b, c, d, q, q1, q2, q3, q4⟩ := h
  exact ⟨a, b, c, d, q, q1, q2, q3, by omega⟩
theorem PurseAt.at {H H' : Hp} {p : Addr} {B : Int} (e : H' p = H p) (h : PurseAt H p B) : PurseAt H' p B := by
  obtain ⟨a, b, c, d, q, r⟩ := h
  exact ⟨a, b, c, d, by rw [e]; exact q, r⟩
theorem PurseAt.upd {H : Hp} {p q : Addr} {o : HO} {B : Int} (h : PurseAt H p B) (n : p ≠ q) : PurseAt (L2.upd H q o) p B := h.at (upd_ne n)
theorem PurseAt.ne {H : Hp} {p q : Addr} {B : Int} (h : PurseAt H p B) (n : H q = none) : p ≠ q := by
  obtain ⟨a, b, c, d, q, r⟩ := h
  exact ne_of_none q n
theorem But.free {p q : Addr} {H H' : Hp} {B : Int} (a : But p H H') (hp : PurseAt H' p B) (h : H' q = none) : H q = none := by
  have n := hp.ne h
  cases e : H q with
  | none => rfl
  | some o =>
    rw [a q o n.symm e] at h
    cases h
/-- a draw of a number told by a Nat -/
theorem nat_of {r m : Int} (h : 0 ≤ r) : ∃ j : Nat, r = j := ⟨r.toNat, by omega⟩
section
variable {P : Program} {w : World} {K : PySem.W.Frag} {mg : Str → Option Value} {base : Heap}
abbrev DrawC (P : Program) (w : World) (K : PySem.W.Frag) (mg : Str → Option Value) (base : Heap) : Prop := Cee P w K mg base 2 "_law_draw" ["_law_purse_here", "_law_many"] spDraw
theorem take_next' {α : Type} {l : List α} {i : Nat} {x : α} (h : l[i]? = some x) : l.take (i + 1) = l.take i ++ [x] := by
  rw [List.take_add_one, h]
  rfl
end
end KT
set_option Elab.async false
set_option linter.all false
set_option maxRecDepth 100000
set_option maxHeartbeats 4000000
namespace KT
open PySem L2 PyProof.Rows
theorem at_slots {t : TS} {D : Ends} {σ σ' : L2.St} {H : Hp} (e : σ = σ') (h : t D σ' H) : t D σ H := by
  subst e
  exact h
theorem at_name {i : Nat} {v : V} {σ σ' : L2.St} {H : Hp} {Q : L2.St → Hp → Prop} (e : σ.set i (some v) = σ') (h : Q σ' H) : gName i v σ H Q := by
  subst e
  exact h
section
variable {P : Program} {w : World} {K : PySem.W.Frag} {mg : Str → Option Value} {base : Heap}
def spWords : Sp := fun vs H Q _ => ∃ (p : Addr) (m B : Int), vs = [.ref p, .int m] ∧ PurseAt H p B ∧ 0 ≤ B ∧ B ≤ 980000 ∧ 1 ≤ m ∧ m ≤ 12 ∧
  ∀ (q : Addr) (ws : List Str) (H' : Hp), H q = none → But p H H' → PurseAt H' p (B + 1000) → H' q = some (.lst (ws.map V.str)) → (ws.length : Int) = m → (∀ x ∈ ws, Wd x) → ws.Nodup → Q (.ref q) H'
abbrev nWords : List Str := ["_law_purse_here", "_law_many", "_law_base", "_law_near", "_law_spot", "_law_found", "_law_spin", "_law_word_here", "_law_letter"]
theorem scWords : FnScope nWords ["_law_purse_here", "_law_many"] (defScope sWords) := ⟨rfl, rfl, rfl, by decide +kernel, rfl, by decide +kernel, by decide +kernel⟩
theorem abc_signs : SmR.signs "abcdefghijklmnopqrstuvwxyz" = (List.range 26).map fun j => (⟨#[97 + j]⟩ : Str) := by decide +kernel
theorem inV_strs (x : Str) (ws : List Str) : inV (.str x) (ws.map V.str) = decide (x ∈ ws) := by
  unfold inV
  rw [List.any_map]
  induction ws with
  | nil => rfl
  | cons y ys ih =>
    rw [List.any_cons, ih]
    show ((y == x) || _) = _
    by_cases e : y = x
    · subst e; simp
    · have e2 : ¬ x = y := fun z => e z.symm
      simp [e, e2]
theorem flat_strs (ws : List Str) : (ws.map V.str).all flatV = true := by
  rw [List.all_map]
  exact List.all_eq_true.mpr fun _ _ => rfl
theorem abc_nodup : (SmR.signs "abcdefghijklmnopqrstuvwxyz").Nodup := by rw [abc_signs]; decide +kernel
theorem abc_len : (SmR.signs "abcdefghijklmnopqrstuvwxyz").length = 26 := by decide +kernel
theorem abc_wd : ∀ x ∈ SmR.signs "abcdefghijklmnopqrstuvwxyz", Wd x := by
  intro x hx
  rw [abc_signs] at hx
  obtain ⟨j, hj, rfl⟩ := List.mem_map.mp hx
  have h26 := List.mem_range.mp hj
  refine ⟨by show 1 ≤ 1; decide, by show 1 ≤ 8; decide, fun c hc => ?_⟩
  have e : c = 97 + j := by simpa using hc
  omega
/-- a letter that is no word yet -/
theorem abc_free {ws : List Str} (h : ws.length < 26) : ∃ y ys, (SmR.signs "abcdefghijklmnopqrstuvwxyz").filter (fun y => decide (y ∉ ws)) = y :: ys ∧ Wd y ∧ y ∉ ws := by
  cases e : (SmR.signs "abcdefghijklmnopqrstuvwxyz").filter (fun y => decide (y ∉ ws)) with
  | nil =>
    have := List.Nodup.length_le_of_subset abc_nodup (l₂ := ws) fun x hx => Classical.byContradiction fun n => by
      have m : x ∈ (SmR.signs "abcdefghijklmnopqrstuvwxyz").filter (fun y => decide (y ∉ ws)) := List.mem_filter.mpr ⟨hx, decide_eq_true n⟩
      rw [e] at m
      cases m
    rw [abc_len] at this
    omega
  | cons y ys =>
    have m : y ∈ (SmR.signs "abcdefghijklmnopqrstuvwxyz").filter (fun y => decide (y ∉ ws)) := by rw [e]; exact List.mem_cons_self
    obtain ⟨m1, m2⟩ := List.mem_filter.mp m
    exact ⟨y, ys, rfl, abc_wd y m1, of_decide_eq_true m2⟩
/-- a word with one letter changed -/
theorem near_wd {z : Str} {j c : Nat} (h : Wd z) (hj : j < z.length) (c1 : 97 ≤ c) (c2 : c ≤ 122) : Wd (cutS z none (some (j : Int)) ++ ⟨#[c]⟩ ++ cutS z (some ((j : Int) + 1)) none) ∧ (cutS z none (some (j : Int))).length = j ∧ (cutS z (some ((j : Int) + 1)) none).length = z.length - (j + 1) := by
  obtain ⟨h1, h2, h3⟩ := h
  have zl : z.cps.toList.length = z.length := Array.length_toList
  have e1 : (cutS z none (some (j : Int))).cps.toList = z.cps.toList.take j := by
    unfold cutS
    show (z.cps.toList.drop 0).take (HT.sIx z.length z.length (some (j : Int)) - 0) = _
    rw [HT.sIx_nat, List.drop_zero, Nat.sub_zero, Nat.min_eq_left (by omega)]
  have e2 : (cutS z (some ((j : Int) + 1)) none).cps.toList = z.cps.toList.drop (j + 1) := by
    unfold cutS
    show (z.cps.toList.drop (HT.sIx z.length 0 (some ((j : Int) + 1)))).take (HT.sIx z.length z.length none - HT.sIx z.length 0 (some ((j : Int) + 1))) = _
    have ej : ((j : Int) + 1) = ((j + 1 : Nat) : Int) := by omega
    rw [ej, HT.sIx_nat, Nat.min_eq_left (by omega)]
    show (z.cps.toList.drop (j + 1)).take (z.length - (j + 1)) = _
    rw [List.take_of_length_le (by rw [List.length_drop, zl]; omega)]
  have l1 : (cutS z none (some (j : Int))).length = j := by
    show (cutS z none (some (j : Int))).cps.size = j
    rw [← Array.length_toList, e1, List.length_take, zl]; omega
  have l2 : (cutS z (some ((j : Int) + 1)) none).length = z.length - (j + 1) := by
    show (cutS z (some ((j : Int) + 1)) none).cps.size = _
    rw [← Array.length_toList, e2, List.length_drop, zl]
  refine ⟨⟨?_, ?_, fun d hd => ?_⟩, l1, l2⟩
  · rw [strLen_append, strLen_append, l1, l2]
    show 1 ≤ j + 1 + _
    omega
  · rw [strLen_append, strLen_append, l1, l2]
    show j + 1 + (z.length - (j + 1)) ≤ 8
    omega
  · have e : (cutS z none (some (j : Int)) ++ (⟨#[c]⟩ : Str) ++ cutS z (some ((j : Int) + 1)) none).cps.toList = z.cps.toList.take j ++ [c] ++ z.cps.toList.drop (j + 1) := by
      show (((cutS z none (some (j : Int))).cps ++ #[c]) ++ (cutS z (some ((j : Int) + 1)) none).cps).toList = _
      rw [Array.toList_append, Array.toList_append, e1, e2]
    rw [e] at hd
    rcases List.mem_append.mp hd with q | q
    · rcases List.mem_append.mp q with q | q
      · exact h3 d (List.mem_of_mem_take q)
      · have := List.mem_singleton.mp q
        omega
    · exact h3 d (List.mem_of_mem_drop q)
theorem ok_words {f : Addr} {fd : FuncData} (F : Fun K "_law_words" "_law_words" sWords f fd) (T : Blt mg) (hl : mg "list" = none) (D : DrawC P w K mg base) (W : Cee P w K mg base 3 "_law_word" ["_law_purse_here"] spWord) : FnOk P w K mg base CX0 4 f fd ["_law_purse_here", "_law_many"] spWords := by
  refine F.ok scWords (fun vs H Q E h => ?_) (fun cdv A outer s H vs Q E hr h => ?_)
  · obtain ⟨p, m, B, rfl, _⟩ := h
    rfl
  · obtain ⟨p, m, B, rfl, hP, B0, B1, m1, m2, k⟩ := h
    have nd := scWords.nd
    refine ⟨_, pss_cons (ps_par (i := 2) (j := 3) rfl nd rfl rfl (by decide) rfl rfl (pa_cons (pe_c W hr rfl (pa_cons (pv 0) pa_nil)) (pa_cons (pe_cmpR op_eq (pe_c D hr rfl (pa_cons (pv 0) (pa_cons pe_int pa_nil))) pe_int (nomark _)) pa_nil)) (by rfl))
      (pss_cons (ps_asg (pe_tup (pa_cons (pe_c D hr rfl (pa_cons (pv 0) (pa_cons (pe_callB call_len (by rfl) T.len PySem.boot_len (pa_cons (pv 2) pa_nil)) pa_nil))) (pa_cons (pe_lst pa_nil) pa_nil))) (pg_tup rfl (pgs_cons (pg_name (i := 4) nd rfl (Or.inl rfl)) (pgs_cons (pg_name (i := 5) nd rfl (Or.inr rfl)) pgs_nil))))
      (pss_cons (ps_for PassesOwn.never rfl (pi_range1 rfl T.range (pa_cons (pv 1) pa_nil)) (pg_name (i := 6) nd rfl (Or.inl rfl))
        (pss_cons (ps_set (i := 7) nd rfl (Or.inl rfl) (pe_op op_add_str (pe_op op_add_str (pe_slice sl_str (pv 2) po_none (po_some (pv 4))) (pe_ix ix_str pe_str (pe_c D hr rfl (pa_cons (pv 0) (pa_cons pe_int pa_nil))) (fun _ _ => rfl)))
            (pe_slice sl_str (pv 2) (po_some (pe_op op_add (pv 4) pe_int)) po_none)))
        (pss_cons (ps_if (pt_not (pt_val (pv 3))) (pss_one (ps_set (i := 7) nd rfl (Or.inl rfl) (pe_c W hr rfl (pa_cons (pv 0) pa_nil)))) pss_nil)
        (pss_cons (ps_if (pt_cmpR op_in_seq (pv 7) (pv 5) (by rfl)) (pss_one (ps_set (i := 7) nd rfl (Or.inl rfl) (pe_ix ix_list
            (pe_lc (own := [("_law_letter", 8)]) (g := gName 8) (tt := tTest (tOp (rIn K true) (tVar 8) (tVar 5))) (te := tVar 8) rfl nd (pi_list (pe_callTy (SmR.cr_listStr rfl) (by rfl) hl (by decide +kernel) (pa_cons pe_str pa_nil))) (blkOk_by (own := [("_law_letter", 8)]) (N := nWords) (sc := defScope sWords) (by decide +kernel))
              (fun _ _ _ _ _ => pg_name (i := 8) nd rfl (Or.inl rfl)) (fun _ _ _ _ _ => pts_one (pt_cmpR op_notIn_seq (pv 8) (pv 5) (by rfl))) (fun _ _ _ _ _ => pv 8)) pe_int (fun _ _ => rfl)))) pss_nil)
        (pss_one (ps_expr (pe_bm PySem.F.plainAttrs_list PySem.F.slot_list_append PySem.F.type_list_append mt_append (pv 5) (pa_cons (pv 7) pa_nil))))))))
      (pss_one (ps_ret (pv 5))))), ?_⟩
    refine ⟨_, rfl, p, B, rfl, hP, B0, by omega, fun base H1 hbase bt1 hP1 => ?_⟩
    refine ⟨_, rfl, p, 3, _, rfl, hP1, by omega, by omega, by decide, by decide, fun r1 H2 bt2 hP2 _ _ => ?_⟩
    refine ⟨rfl, _, _, rfl, ?_⟩
    generalize hnear : decide (V.int r1 = V.int 0) = near
    refine at_slots (σ' := [some (.ref p), some (.int m), some (.str base), some (.bl near), none, none, none, none, none]) rfl ?_
    have lb := hbase.2.1
    refine ⟨_, rfl, _, rfl, _, base.length, rfl, ⟨by rw [sizeLine_eq]; omega, rfl⟩, ?_⟩
    refine ⟨p, base.length, _, rfl, hP2, by omega, by omega, ?_, by omega, fun r2 H3 bt3 hP3 r20 r21 => ?_⟩
    · have := hbase.1
      omega
    refine ⟨(by show 0 ≤ sizeLine; decide), fun q hq => ?_⟩
    have bt := bt1.trans (bt2.trans bt3)
    have hq0 : H q = none := bt.free hP3 hq
    have hP4 := hP3.upd (q := q) (o := .lst []) (hP3.ne hq)
    have e4 : upd H3 q (.lst []) q = some (.lst []) := upd_same
    have bt4 : But p H (upd H3 q (.lst [])) := bt.new hq
    generalize upd H3 q (.lst []) = G4 at hP4 e4 bt4 ⊢
    refine ⟨(by show 2 ≤ sizeLine; decide), fun t ht => ?_⟩
    have hP5 := hP4.upd (q := t) (o := .tup [.int r2, .ref q]) (hP4.ne ht)
    have e5 : upd G4 t (.tup [.int r2, .ref q]) q = some (.lst []) := (upd_ne (ne_of_none e4 ht)).trans e4
    have e6 : upd G4 t (.tup [.int r2, .ref q]) t = some (.tup [.int r2, .ref q]) := upd_same
    have bt5 : But p H (upd G4 t (.tup [.int r2, .ref q])) := bt4.new ht
    generalize upd G4 t (.tup [.int r2, .ref q]) = G5 at hP5 e5 e6 bt5 ⊢
    refine ⟨t, _, rfl, SqT.of e6, rfl, _, _, rfl, ?_⟩
    refine at_name (σ' := [some (.ref p), some (.int m), some (.str base), some (.bl near), some (.int r2), none, none, none, none]) rfl ?_
    refine ⟨_, _, rfl, ?_⟩
    refine at_name (σ' := [some (.ref p), some (.int m), some (.str base), some (.bl near), some (.int r2), some (.ref q), none, none, none]) rfl ?_
    refine ⟨rfl, ?_⟩
    refine ⟨_, rfl, m, rfl, by omega, by omega, ?_⟩
    obtain ⟨sp, rfl⟩ := nat_of (m := 0) r20
    refine for_range (lo := 0) (n := m.toNat) (fun i σ H' => ∃ (x6 x7 x8 : Option V) (ws : List Str), σ = [some (.ref p), some (.int m), some (.str base), some (.bl near), some (.int sp), some (.ref q), x6, x7, x8] ∧ But p H H' ∧ PurseAt H' p (B + 48 + 44 * i) ∧ H' q = some (.lst (ws.map V.str)) ∧ ws.length = i ∧ (∀ x ∈ ws, Wd x) ∧ ws.Nodup) ?_ ?_ ?_
    · exact ⟨_, _, _, [], rfl, bt5, hP5.le (by omega), e5, rfl, fun x hx => by (cases hx), List.nodup_nil⟩
    · rintro i σ H6 hi ⟨x6, x7, x8, ws, rfl, bt6, hP6, hq6, lw, wd, ndw⟩
      have npq : p ≠ q := fun e => by
        obtain ⟨a, b, c, d, h1, _⟩ := hP6
        rw [e, hq6] at h1
        have e1 := congrArg (fun o => match o with | some (.lst xs) => xs.head? | _ => none) h1
        cases ws <;> cases e1
      refine ⟨_, rfl, _, rfl, _, rfl, _, rfl, by rw [sizeLine_eq]; omega, ?_⟩
      refine ⟨_, rfl, p, 26, _, rfl, hP6, by omega, by omega, by decide, by decide, fun r3 H7 bt7 hP7 r30 r31 => ?_⟩
      obtain ⟨j, rfl⟩ := nat_of (m := 0) r30
      obtain ⟨c, hc, c1, c2⟩ := abc_at (j := j) (by omega)
      refine ⟨_, _, c, rfl, rfl, by decide +kernel, hc, ?_⟩
      obtain ⟨wn, ln⟩ := near_wd hbase (j := sp) (by omega) c1 c2
      have l1c : (⟨#[c]⟩ : Str).length = 1 := rfl
      refine ⟨_, _, rfl, rfl, by rw [sizeLine_eq, l1c, ln.1]; omega, ?_⟩
      refine ⟨_, rfl, _, rfl, _, _, rfl, rfl, _, rfl, _, rfl, by rw [sizeLine_eq]; omega, ?_⟩
      refine ⟨_, _, rfl, rfl, by rw [sizeLine_eq, strLen_append, l1c, ln.1, ln.2]; omega, ?_⟩
      generalize hw0 : cutS base none (some (sp : Int)) ++ (⟨#[c]⟩ : Str) ++ cutS base (some ((sp : Int) + 1)) none = w0 at wn ⊢
      refine at_name (σ' := [some (.ref p), some (.int m), some (.str base), some (.bl near), some (.int sp), some (.ref q), some (.int (0 + i)), some (.str w0), x8]) rfl ?_
      have hq7 : H7 q = some (.lst (ws.map V.str)) := bt7 q _ npq.symm hq6
      have bt67 := bt6.trans bt7
      refine ⟨_, rfl, near, rfl, ?_⟩
      cases near
      · refine iteT ?_
        refine ⟨_, rfl, p, _, rfl, hP7, by omega, by omega, fun w1 H8 wd1 bt8 hP8' => ?_⟩
        refine at_name (σ' := [some (.ref p), some (.int m), some (.str base), some (.bl false), some (.int sp), some (.ref q), some (.int (0 + i)), some (.str w1), x8]) rfl ?_
        have hP8 : PurseAt H8 p (B + 48 + 44 * i + 44) := hP8'.le (by omega)
        have hq8 : H8 q = some (.lst (ws.map V.str)) := bt8 q _ npq.symm hq7
        have btH := bt67.trans bt8
        refine ⟨_, rfl, _, rfl, q, _, rfl, .inl (SqL.of hq8), rfl, flat_strs ws, _, rfl, ?_⟩
        rw [if_neg Bool.false_ne_true, inV_strs]
        refine ite2 (fun hin => ?_) (fun hin => ?_)
        · refine ⟨"abcdefghijklmnopqrstuvwxyz", rfl, by decide +kernel, fun L hL => ?_⟩
          have hP9 := hP8.upd (q := L) (o := .lst ((SmR.signs "abcdefghijklmnopqrstuvwxyz").map V.str)) (hP8.ne hL)
          have hq9 : upd H8 L (.lst ((SmR.signs "abcdefghijklmnopqrstuvwxyz").map V.str)) q = some (.lst (ws.map V.str)) := (upd_ne (ne_of_none hq8 hL)).trans hq8
          have hL9 : upd H8 L (.lst ((SmR.signs "abcdefghijklmnopqrstuvwxyz").map V.str)) L = _ := upd_same
          have bt9 : But p H (upd H8 L (.lst ((SmR.signs "abcdefghijklmnopqrstuvwxyz").map V.str))) := btH.new hL
          generalize upd H8 L (.lst ((SmR.signs "abcdefghijklmnopqrstuvwxyz").map V.str)) = H9 at hP9 hq9 hL9 bt9 ⊢
          refine ⟨L, rfl, ⟨_, SqL.of hL9⟩, fun D hD => ?_⟩
          refine lc_list (K := K) (a := L) (xs := (SmR.signs "abcdefghijklmnopqrstuvwxyz").map V.str) (fun n H' => L2.Same H9 H' ∧ H' D = some (.lst ((((SmR.signs "abcdefghijklmnopqrstuvwxyz").take n).filter fun y => decide (y ∉ ws)).map V.str))) ?_ ?_ ?_ ?_
          · exact ⟨Same.new hD, upd_same⟩
          · rintro n H' _ ⟨sm, _⟩
            exact SqL.of (sm _ _ hL9)
          · rintro n x H' hx ⟨sm, hD'⟩
            obtain ⟨y, hy, rfl⟩ : ∃ y, (SmR.signs "abcdefghijklmnopqrstuvwxyz")[n]? = some y ∧ x = .str y := by
              rw [List.getElem?_map] at hx
              cases e : (SmR.signs "abcdefghijklmnopqrstuvwxyz")[n]? with
              | none => rw [e] at hx; cases hx
              | some y => rw [e] at hx; exact ⟨y, rfl, (Option.some.inj hx).symm⟩
            refine ⟨rfl, ?_⟩
            refine ⟨_, rfl, _, rfl, q, _, rfl, .inl (SqL.of (sm _ _ hq9)), rfl, flat_strs ws, _, rfl, ?_⟩
            rw [if_pos rfl, inV_strs]
            rw [take_next' hy, List.filter_append]
            by_cases hy2 : y ∈ ws
            · refine iteNS hy2 ⟨sm, ?_⟩
              rw [List.filter_cons_of_neg (by simpa using hy2), List.filter_nil, List.append_nil]
              exact hD'
            · rw [decide_eq_false hy2]
              refine ⟨_, rfl, _, hD', ?_, ?_, ?_⟩
              · rw [List.length_map]
                refine small1000 (Nat.le_trans (List.length_filter_le _ _) ?_)
                rw [List.length_take, abc_len]; omega
              · intro b o e
                rw [upd_ne (fun z => by rw [z, hD] at e; cases e)]
                exact sm _ _ e
              · rw [List.filter_cons_of_pos (by simpa using hy2), List.filter_nil, List.map_append]
                exact upd_same
          · rintro H' ⟨sm, hD'⟩
            rw [List.length_map, List.take_length] at hD'
            obtain ⟨y, ys, ey, wy, ny⟩ := abc_free (ws := ws) (by omega)
            rw [ey] at hD'
            refine ⟨D, _, 0, .str y, rfl, rfl, SqL.of hD', atI_nat (j := 0) rfl, ?_⟩
            refine at_name (σ' := [some (.ref p), some (.int m), some (.str base), some (.bl false), some (.int sp), some (.ref q), some (.int (0 + i)), some (.str y), x8]) rfl ?_
            have hqE := sm _ _ hq9
            have hPE := hP9.mono sm
            refine ⟨_, rfl, .inl ⟨rfl, _, SqL.of hqE⟩, _, rfl, q, _, _, rfl, rfl, hqE, by rw [List.length_map]; exact small1000 (by omega), ?_⟩
            refine ⟨_, _, _, ws ++ [y], rfl, (bt9.same sm).fresh hq0, (hPE.upd npq).le (by omega), by rw [List.map_append]; exact upd_same, by simp [lw], ?_, ?_⟩
            · intro x hx
              rcases List.mem_append.mp hx with h | h
              · exact wd x h
              · rw [List.mem_singleton.mp h]; exact wy
            · exact List.nodup_append.mpr ⟨ndw, by simp, fun a ha b hb e => ny (by rw [← List.mem_singleton.mp hb, ← e]; exact ha)⟩
        · refine ⟨_, rfl, .inl ⟨rfl, _, SqL.of hq8⟩, _, rfl, q, _, _, rfl, rfl, hq8, by rw [List.length_map]; exact small1000 (by omega), ?_⟩
          refine ⟨_, _, _, ws ++ [w1], rfl, btH.fresh hq0, (hP8.upd npq).le (by omega), by rw [List.map_append]; exact upd_same, by simp [lw], ?_, ?_⟩
          · intro x hx
            rcases List.mem_append.mp hx with h | h
            · exact wd x h
            · rw [List.mem_singleton.mp h]; exact wd1
          · exact List.nodup_append.mpr ⟨ndw, by simp, fun a ha b hb e => (fun m => hin (decide_eq_true m)) (by rw [← List.mem_singleton.mp hb, ← e]; exact ha)⟩
      · refine iteF ?_
        obtain ⟨w1, rfl⟩ : ∃ z, z = w0 := ⟨_, rfl⟩
        obtain ⟨H8, rfl⟩ : ∃ z, z = H7 := ⟨_, rfl⟩
        have wd1 := wn
        have hP8 : PurseAt H8 p (B + 48 + 44 * i + 44) := hP7.le (by omega)
        have hq8 := hq7
        have btH := bt67
        refine ⟨_, rfl, _, rfl, q, _, rfl, .inl (SqL.of hq8), rfl, flat_strs ws, _, rfl, ?_⟩
        rw [if_neg Bool.false_ne_true, inV_strs]
        refine ite2 (fun hin => ?_) (fun hin => ?_)
        · refine ⟨"abcdefghijklmnopqrstuvwxyz", rfl, by decide +kernel, fun L hL => ?_⟩
          have hP9 := hP8.upd (q := L) (o := .lst ((SmR.signs "abcdefghijklmnopqrstuvwxyz").map V.str)) (hP8.ne hL)
          have hq9 : upd H8 L (.lst ((SmR.signs "abcdefghijklmnopqrstuvwxyz").map V.str)) q = some (.lst (ws.map V.str)) := (upd_ne (ne_of_none hq8 hL)).trans hq8
          have hL9 : upd H8 L (.lst ((SmR.signs "abcdefghijklmnopqrstuvwxyz").map V.str)) L = _ := upd_same
          have bt9 : But p H (upd H8 L (.lst ((SmR.signs "abcdefghijklmnopqrstuvwxyz").map V.str))) := btH.new hL
          generalize upd H8 L (.lst ((SmR.signs "abcdefghijklmnopqrstuvwxyz").map V.str)) = H9 at hP9 hq9 hL9 bt9 ⊢
          refine ⟨L, rfl, ⟨_, SqL.of hL9⟩, fun D hD => ?_⟩
          refine lc_list (K := K) (a := L) (xs := (SmR.signs "abcdefghijklmnopqrstuvwxyz").map V.str) (fun n H' => L2.Same H9 H' ∧ H' D = some (.lst ((((SmR.signs "abcdefghijklmnopqrstuvwxyz").take n).filter fun y => decide (y ∉ ws)).map V.str))) ?_ ?_ ?_ ?_
          · exact ⟨Same.new hD, upd_same⟩
          · rintro n H' _ ⟨sm, _⟩
            exact SqL.of (sm _ _ hL9)
          · rintro n x H' hx ⟨sm, hD'⟩
            obtain ⟨y, hy, rfl⟩ : ∃ y, (SmR.signs "abcdefghijklmnopqrstuvwxyz")[n]? = some y ∧ x = .str y := by
              rw [List.getElem?_map] at hx
              cases e : (SmR.signs "abcdefghijklmnopqrstuvwxyz")[n]? with
              | none => rw [e] at hx; cases hx
              | some y => rw [e] at hx; exact ⟨y, rfl, (Option.some.inj hx).symm⟩
            refine ⟨rfl, ?_⟩
            refine ⟨_, rfl, _, rfl, q, _, rfl, .inl (SqL.of (sm _ _ hq9)), rfl, flat_strs ws, _, rfl, ?_⟩
            rw [if_pos rfl, inV_strs]
            rw [take_next' hy, List.filter_append]
            by_cases hy2 : y ∈ ws
            · refine iteNS hy2 ⟨sm, ?_⟩
              rw [List.filter_cons_of_neg (by simpa using hy2), List.filter_nil, List.append_nil]
              exact hD'
            · rw [decide_eq_false hy2]
              refine ⟨_, rfl, _, hD', ?_, ?_, ?_⟩
              · rw [List.length_map]
                refine small1000 (Nat.le_trans (List.length_filter_le _ _) ?_)
                rw [List.length_take, abc_len]; omega
              · intro b o e
                rw [upd_ne (fun z => by rw [z, hD] at e; cases e)]
                exact sm _ _ e
              · rw [List.filter_cons_of_pos (by simpa using hy2), List.filter_nil, List.map_append]
                exact upd_same
          · rintro H' ⟨sm, hD'⟩
            rw [List.length_map, List.take_length] at hD'
            obtain ⟨y, ys, ey, wy, ny⟩ := abc_free (ws := ws) (by omega)
            rw [ey] at hD'
            refine ⟨D, _, 0, .str y, rfl, rfl, SqL.of hD', atI_nat (j := 0) rfl, ?_⟩
            refine at_name (σ' := [some (.ref p), some (.int m), some (.str base), some (.bl true), some (.int sp), some (.ref q), some (.int (0 + i)), some (.str y), x8]) rfl ?_
            have hqE := sm _ _ hq9
            have hPE := hP9.mono sm
            refine ⟨_, rfl, .inl ⟨rfl, _, SqL.of hqE⟩, _, rfl, q, _, _, rfl, rfl, hqE, by rw [List.length_map]; exact small1000 (by omega), ?_⟩
            refine ⟨_, _, _, ws ++ [y], rfl, (bt9.same sm).fresh hq0, (hPE.upd npq).le (by omega), by rw [List.map_append]; exact upd_same, by simp [lw], ?_, ?_⟩
            · intro x hx
              rcases List.mem_append.mp hx with h | h
              · exact wd x h
              · rw [List.mem_singleton.mp h]; exact wy
            · exact List.nodup_append.mpr ⟨ndw, by simp, fun a ha b hb e => ny (by rw [← List.mem_singleton.mp hb, ← e]; exact ha)⟩
        · refine ⟨_, rfl, .inl ⟨rfl, _, SqL.of hq8⟩, _, rfl, q, _, _, rfl, rfl, hq8, by rw [List.length_map]; exact small1000 (by omega), ?_⟩
          refine ⟨_, _, _, ws ++ [w1], rfl, btH.fresh hq0, (hP8.upd npq).le (by omega), by rw [List.map_append]; exact upd_same, by simp [lw], ?_, ?_⟩
          · intro x hx
            rcases List.mem_append.mp hx with h | h
            · exact wd x h
            · rw [List.mem_singleton.mp h]; exact wd1
          · exact List.nodup_append.mpr ⟨ndw, by simp, fun a ha b hb e => (fun m => hin (decide_eq_true m)) (by rw [← List.mem_singleton.mp hb, ← e]; exact ha)⟩
    · rintro σ H6 ⟨x6, x7, x8, ws, rfl, bt6, hP6, hq6, lw, wd, ndw⟩
      exact ⟨_, rfl, k q ws H6 hq0 bt6 (hP6.le (by omega)) hq6 (by omega) wd ndw⟩
end
end KT
set_option Elab.async false
set_option linter.all false
set_option maxRecDepth 100000
set_option maxHeartbeats 2000000
namespace DTp
open PySem PySem.Spec PySem.W PyProof.Rows L2
/-- the entry's tuple -/
def ItT (H : Hp) : List Addr → List (List Key × V) → Prop := Paired fun t kv => ∃ b, H t = some (.tup [.ref b, kv.2]) ∧ H b = some (.tup (kv.1.map kV))
section
variable {X : Cx}
theorem paired_of {α β : Type} {F : α → β → Prop} : ∀ {xs : List α} {ys : List β}, xs.length = ys.length → (∀ (i : Nat) (x : α) (y : β), xs[i]? = some x → ys[i]? = some y → F x y) → Paired F xs ys
  | [], [], _, _ => .nil
  | [], _ :: _, h, _ => by cases h
  | _ :: _, [], h, _ => by cases h
  | x :: xs, y :: ys, h, k => .cons (k 0 x y rfl rfl) (paired_of (Nat.succ.inj h) fun i a b e1 e2 => k (i + 1) a b e1 e2)
def tDictZip (K : PySem.W.Frag) (ta : TA) : TE := fun σ H Q => ta σ H fun vs H1 => ∃ (a b : Addr) (xs : List Str) (ys : List V), vs = [.ref a, .ref b] ∧ SqL K H1 a (xs.map V.str) ∧ SqL K H1 b ys ∧ xs.length ≤ ys.length ∧ xs.length ≤ 1000 ∧
  ∀ p, H1 p = none → Q (.ref p) (upd H1 p (.dK (mergeK [] ((xs.map Sum.inr).zip ys))))
theorem kv_zip : ∀ {xs : List Str} {ys : List V} {us vs : List Value}, Vals (xs.map V.str) us → Vals ys vs → KV ((xs.map Sum.inr).zip ys) ((xs.map (Sum.inr : Str → Key)).zip vs)
  | [], _, _, _, _, _ => .nil
  | _ :: _, [], _, _, _, .nil => .nil
  | x :: xs, y :: ys, _, _, .cons r t, .cons r2 t2 => .cons ⟨rfl, r2⟩ (kv_zip t t2)
theorem pe_dictZip {e e2 : Expr} {ta : TA} {p p2 pos pos2 : Pos} (hc : X.calm = true) (hg : Gl X "dict") (hm : X.mg "dict" = none) (hg2 : Gl X "zip") (hm2 : X.mg "zip" = none) (ha : PA X [e, e2] ta) (hs : starEach [e, e2] X.env = (false, eval e X.env) :: starEach [e2] X.env := by rfl)
    (hpl : (backTo pos2 (starEach [e2] X.env)).any (·.1) = false := by rfl) (hs2 : starEach [.Call (.Name "zip" p2) [e, e2] [] pos2] X.env = (false, eval (.Call (.Name "zip" p2) [e, e2] [] pos2) X.env) :: starEach [] X.env := by rfl) :
    PE X (.Call (.Name "dict" p) [.Call (.Name "zip" p2) [e, e2] [] pos2] [] pos) (tDictZip X.K ta) := by
  refine ⟨fun pins s σ H Q I h => ?_⟩
  refine wpAny_Call_Name_kw (ld_blt I hg hm (show bootBuiltins "dict" = some (.type "dict") by decide +kernel) ?_ (by decide) (by decide))
  refine PyProof.Rows.callWith_type1 ?_ hs2 rfl
  rw [hs2]
  refine Calls.spliced_cons (Call_ (ld_blt I hg2 hm2 PyProof.Rows.boot_zip (PyProof.Rows.callWith_type1 (thn (ha.run pos2 pins s σ H _ I h) fun us s1 ⟨vs, H1, I1, r1, q1⟩ => ?_) hs hpl) (by decide) (by decide)))
  obtain ⟨a, b, xs, ys, rfl, hx, hy, hl, few, q⟩ := q1
  obtain ⟨u, v, rfl, ru, rv⟩ := vals2 r1
  cases (show u = Value.ref a from ru)
  cases (show v = Value.ref b from rv)
  obtain ⟨its, k1, p1, _⟩ := I1.list hx
  obtain ⟨its2, k2, p2', _⟩ := I1.list hy
  have n1 := k1.length
  have n2 := k2.length
  rw [List.length_map] at n1
  refine call_zip_2 p1.isList p2'.isList fun h' hz hTI hTO h1 h2 hsz hk => Calls.spliced_nil ?_
  have hh := I1.ok.hd hc
  have la : a < s1.heap.objs.size := p1.lt
  have lb : b < s1.heap.objs.size := p2'.lt
  have D := PySem.W.ktu_apart s1.heap.objs.size a b la lb
  have hmn : min its.toArray.size its2.toArray.size = xs.length := by
    rw [List.size_toArray, List.size_toArray]; omega
  refine call_dict_pairs (knd := mixKind X.prog X.w) (kvs := (xs.map Sum.inr).zip its2) (PairArg.zip _ _ _ _ _ a b D its.toArray its2.toArray) hh ⟨hz, hTI, ⟨_, _, hTO⟩, h1, h2, p1.isList.at fun o e => hk _ _ e, p2'.isList.at fun o e => hk _ _ e⟩ ⟨?_, fun i key v e => ?_⟩ (by rw [hmn, sizeLine_eq]; omega) fun h2' tk dd hk2 => ?_
  · rw [List.length_zip, List.length_map, hmn]; omega
  · obtain ⟨e1, e2⟩ := e
    rw [List.getElem?_toArray] at e1 e2
    have hi : i < xs.length := by
      have := (List.getElem?_eq_some_iff.mp e1).1
      omega
    have ex : (xs.map V.str)[i]? = some (V.str xs[i]) := by rw [List.getElem?_map, List.getElem?_eq_getElem hi]; rfl
    obtain ⟨u, eu, ru⟩ := Vals.get k1 ex
    rw [e1] at eu
    obtain ⟨t, et⟩ := ru
    have eu := Option.some.inj eu
    refine ⟨.inr xs[i], ?_, ?_⟩
    · rw [List.getElem?_zip_eq_some]
      exact ⟨by rw [List.getElem?_map, List.getElem?_eq_getElem hi]; rfl, e2⟩
    · rw [eu, et]
      exact mixKind_str _ _ _ _
  · have big : sysModules < h'.objs.size := by
      rw [hsz]
      exact Nat.lt_of_lt_of_le I1.big (Nat.le_add_right _ _)
    have hsl : s1.heap.objs.size ≤ h'.objs.size := by rw [hsz]; exact Nat.le_add_right _ _
    have hn : H1 h'.objs.size = none := I1.hok.fresh hsl
    have kk : ∀ b o, s1.heap.get? b = some o → h2'.get? b = some o := fun b o e => hk2 b o (fun hm => by
      have hb := Heap.lt_size e
      have hm : b = s1.heap.objs.size + 4 ∨ b = s1.heap.objs.size + 3 ∨ b = s1.heap.objs.size ∨ b = s1.heap.objs.size + 1 := by simpa using hm
      rcases hm with z | z | z | z
      · rw [z] at hb; exact absurd hb (Nat.not_lt.mpr (Nat.le_add_right _ _))
      · rw [z] at hb; exact absurd hb (Nat.not_lt.mpr (Nat.le_add_right _ _))
      · rw [z] at hb; exact absurd hb (Nat.lt_irrefl _)
      · rw [z] at hb; exact absurd hb (Nat.not_lt.mpr (Nat.le_add_right _ _))) (hk b o e)
    refine ⟨.ref h'.objs.size, upd H1 h'.objs.size (.dK (mergeK [] ((xs.map Sum.inr).zip ys))), I1.laid (t' := tk) kk hsl ⟨?_, beq_eq_false_iff_ne.mpr (Nat.ne_of_gt big), merged [] ((xs.map Sum.inr).zip its2), KV.merge (kv_zip k1 k2) .nil, dd⟩, rfl, q _ hn⟩
    refine Nat.le_trans (length_mergeK _ []) ?_
    rw [List.length_nil, Nat.zero_add, List.length_zip, List.length_map, sizeLine_eq]
    omega
end
end DTp
set_option Elab.async false
set_option linter.all false
set_option maxRecDepth 100000
set_option maxHeartbeats 4000000
namespace KT
open PySem L2 DTp
section
variable {ι : Type} {key : ι → List Key} {val : ι → V}
/-- just the entries of the indices in S, each once -/
structure TbG (S : ι → Prop) (key : ι → List Key) (val : ι → V) (kvs : List (List Key × V)) : Prop where
  nd : (kvs.map (·.1)).Nodup
  mem : ∀ e ∈ kvs, ∃ i, S i ∧ e = (key i, val i)
  has : ∀ i, S i → (key i, val i) ∈ kvs
theorem valV_mem {κ : Type} [DecidableEq κ] : ∀ {kvs : List (κ × V)} {k : κ} {v : V}, (kvs.map (·.1)).Nodup → (k, v) ∈ kvs → valV kvs k = some v
  | p :: kvs, k, v, nd, h => by
    rw [List.map_cons, List.nodup_cons] at nd
    rcases List.mem_cons.mp h with e | h
    · subst e
      exact valV_pos rfl
    · have n : ¬ p.1 = k := fun e => nd.1 (e ▸ List.mem_map.mpr ⟨(k, v), h, rfl⟩)
      rw [valV_neg n]
      exact valV_mem nd.2 h
theorem TbG.get {S : ι → Prop} {kvs : List (List Key × V)} (h : TbG S key val kvs) {i : ι} (hi : S i) : valV kvs (key i) = some (val i) := valV_mem h.nd (h.has i hi)
theorem TbG.nil : TbG (fun _ : ι => False) key val [] := ⟨.nil, fun e h => (by cases h), fun i h => h.elim⟩
theorem TbG.congr {S S' : ι → Prop} {kvs : List (List Key × V)} (h : TbG S key val kvs) (e : ∀ i, S i ↔ S' i) : TbG S' key val kvs :=
  ⟨h.nd, fun x hx => let ⟨i, a, b⟩ := h.mem x hx; ⟨i, (e i).mp a, b⟩, fun i hi => h.has i ((e i).mpr hi)⟩
theorem TbG.congrV {S : ι → Prop} {val' : ι → V} {kvs : List (List Key × V)} (h : TbG S key val kvs) (e : ∀ i, S i → val i = val' i) : TbG S key val' kvs :=
  ⟨h.nd, fun x hx => let ⟨i, a, b⟩ := h.mem x hx; ⟨i, a, by rw [← e i a]; exact b⟩, fun i hi => by rw [← e i hi]; exact h.has i hi⟩
theorem any_key {kvs : List (List Key × V)} {k : List Key} : (kvs.any fun kv => decide (kv.1 = k)) = true ↔ k ∈ kvs.map (·.1) := by
  rw [List.any_eq_true, List.mem_map]
  exact ⟨fun ⟨x, h1, h2⟩ => ⟨x, h1, of_decide_eq_true h2⟩, fun ⟨x, h1, h2⟩ => ⟨x, h1, decide_eq_true h2⟩⟩
theorem TbG.put {S : ι → Prop} {kvs : List (List Key × V)} (inj : ∀ i j, key i = key j → i = j) (h : TbG S key val kvs) (i : ι) : TbG (fun j => S j ∨ j = i) key val (putK kvs (key i) (val i)) := by
  unfold putK
  by_cases hk : (kvs.any fun kv => decide (kv.1 = key i)) = true
  · rw [if_pos hk]
    obtain ⟨e, he, ek⟩ := List.mem_map.mp (any_key.mp hk)
    obtain ⟨j, hj, rfl⟩ := h.mem e he
    have eji := inj j i ek
    subst eji
    have same : (kvs.map fun kv => if kv.1 = key j then (kv.1, val j) else kv) = kvs := by
      apply List.ext_getElem?
      intro n
      rw [List.getElem?_map]
      cases hx : kvs[n]? with
      | none => rfl
      | some x =>
        obtain ⟨l, hl, rfl⟩ := h.mem x (List.mem_of_getElem? hx)
        show some (if key l = key j then (key l, val j) else (key l, val l)) = _
        by_cases e : key l = key j
        · rw [if_pos e, inj l j e]
        · rw [if_neg e]
    rw [same]
    exact h.congr fun l => ⟨.inl, fun q => q.elim id fun e => e ▸ hj⟩
  · rw [if_neg hk]
    have nk : key i ∉ kvs.map (·.1) := fun q => hk (any_key.mpr q)
    refine ⟨?_, fun e he => ?_, fun j hj => ?_⟩
    · rw [List.map_append]
      refine List.nodup_append.mpr ⟨h.nd, by simp, fun a ha b hb e => nk ?_⟩
      have : b = key i := by simpa using hb
      rw [← this, ← e]
      exact ha
    · rcases List.mem_append.mp he with q | q
      · obtain ⟨j, a, b⟩ := h.mem e q
        exact ⟨j, .inl a, b⟩
      · exact ⟨i, .inr rfl, List.mem_singleton.mp q⟩
    · rcases hj with q | rfl
      · exact List.mem_append.mpr (.inl (h.has j q))
      · exact List.mem_append.mpr (.inr (List.mem_singleton.mpr rfl))
theorem TbG.merge (inj : ∀ i j, key i = key j → i = j) : ∀ (is : List ι) {S : ι → Prop} {kvs : List (List Key × V)}, TbG S key val kvs → TbG (fun j => S j ∨ j ∈ is) key val (mergeT kvs (is.map fun i => (key i, val i)))
  | [], _, _, h => h.congr fun j => by simp
  | i :: is, S, kvs, h => by
    have := TbG.merge inj is (h.put inj i)
    refine TbG.congr (S := fun j => (S j ∨ j = i) ∨ j ∈ is) this fun j => ?_
    rw [List.mem_cons, or_assoc]
theorem TbG.len {S : ι → Prop} {kvs : List (List Key × V)} (h : TbG S key val kvs) (is : List ι) (k : ∀ i, S i → i ∈ is) : kvs.length ≤ is.length := by
  have e := List.Nodup.length_le_of_subset h.nd (l₂ := is.map key) fun x hx => by
    obtain ⟨e, he, rfl⟩ := List.mem_map.mp hx
    obtain ⟨i, hi, rfl⟩ := h.mem e he
    exact List.mem_map.mpr ⟨i, k i hi, rfl⟩
  rwa [List.length_map, List.length_map] at e
/-- the indices, in the order of the entries -/
theorem TbG.idx {S : ι → Prop} : ∀ {kvs : List (List Key × V)}, TbG S key val kvs → ∃ is : List ι, kvs = is.map (fun i => (key i, val i)) ∧ ∀ i, S i → i ∈ is ∨ ∃ j ∈ is, key j = key i := by
  intro kvs h
  have pick : ∀ l : List (List Key × V), (∀ e ∈ l, ∃ i, S i ∧ e = (key i, val i)) → ∃ is : List ι, l = is.map (fun i => (key i, val i)) ∧ ∀ i ∈ is, S i := by
    intro l
    induction l with
    | nil => exact fun _ => ⟨[], rfl, fun i h => by cases h⟩
    | cons e l ih =>
      intro hm
      obtain ⟨i, hi, rfl⟩ := hm e List.mem_cons_self
      obtain ⟨is, e1, e2⟩ := ih fun x hx => hm x (List.mem_cons_of_mem _ hx)
      refine ⟨i :: is, by rw [e1]; rfl, fun j hj => ?_⟩
      rcases List.mem_cons.mp hj with rfl | q
      · exact hi
      · exact e2 j q
  obtain ⟨is, e1, e2⟩ := pick kvs h.mem
  refine ⟨is, e1, fun i hi => ?_⟩
  have m := h.has i hi
  rw [e1] at m
  obtain ⟨j, hj, ej⟩ := List.mem_map.mp m
  exact .inr ⟨j, hj, congrArg Prod.fst ej⟩
theorem TbG.idxs {S : ι → Prop} {kvs : List (List Key × V)} (inj : ∀ i j, key i = key j → i = j) (h : TbG S key val kvs) : ∃ is : List ι, kvs = is.map (fun i => (key i, val i)) ∧ is.Nodup ∧ ∀ i, S i ↔ i ∈ is := by
  obtain ⟨is, e1, e2⟩ := h.idx
  refine ⟨is, e1, ?_, fun i => ⟨fun hi => ?_, fun hi => ?_⟩⟩
  · have n := h.nd
    rw [e1, List.map_map] at n
    exact List.Pairwise.of_map _ (fun a b hab e => hab (congrArg _ e)) n
  · rcases e2 i hi with q | ⟨j, hj, e⟩
    · exact q
    · exact inj j i e ▸ hj
  · have m : (key i, val i) ∈ kvs := by rw [e1]; exact List.mem_map.mpr ⟨i, hi, rfl⟩
    obtain ⟨j, hj, e⟩ := h.mem _ m
    exact inj i j (congrArg Prod.fst e) ▸ hj
theorem TbG.ofIdx {is : List ι} (inj : ∀ i j, key i = key j → i = j) (nd : is.Nodup) : TbG (fun i => i ∈ is) key val (is.map fun i => (key i, val i)) where
  nd := by
    rw [List.map_map]
    exact List.Pairwise.map _ (fun a b hab e => hab (inj a b e)) nd
  mem := fun e he => let ⟨i, hi, q⟩ := List.mem_map.mp he; ⟨i, hi, q.symm⟩
  has := fun i hi => List.mem_map.mpr ⟨i, hi, rfl⟩
end
/-- a list of entries with different keys, put one by one -/
theorem mergeT_nd : ∀ (more kvs : List (List Key × V)), ((kvs ++ more).map (·.1)).Nodup → mergeT kvs more = kvs ++ more
  | [], kvs, _ => by rw [List.append_nil]; rfl
  | p :: more, kvs, h => by
    have nk : ¬ (kvs.any fun kv => decide (kv.1 = p.1)) = true := fun q => by
      have m := any_key.mp q
      rw [List.map_append] at h
      exact (List.nodup_append.mp h).2.2 _ m p.1 (by simp) rfl
    have e : putK kvs p.1 p.2 = kvs ++ [p] := by unfold putK; rw [if_neg nk]
    show mergeT (putK kvs p.1 p.2) more = _
    rw [e, mergeT_nd more (kvs ++ [p]) (by rw [List.append_assoc]; exact h), List.append_assoc]
    rfl
abbrev Ix := Nat × Nat
def keyI (i : Ix) : List Key := [.inl i.1, .inl i.2]
def valI (t : Nat → Nat → Nat) (i : Ix) : V := .int (t i.1 i.2)
theorem keyI_inj (i j : Ix) (h : keyI i = keyI j) : i = j := by
  obtain ⟨a, b⟩ := i
  obtain ⟨c, d⟩ := j
  simp only [keyI, List.cons.injEq, Sum.inl.injEq, and_true] at h
  obtain ⟨h1, h2⟩ := h
  have e1 : a = c := by omega
  have e2 : b = d := by omega
  rw [e1, e2]
abbrev Sq (n : Nat) : Ix → Prop := fun i => i.1 < n ∧ i.2 < n
/-- the dict at a is the table t of n -/
def TabAt (H : Hp) (a : Addr) (n : Nat) (t : Nat → Nat → Nat) : Prop := ∃ kvs, H a = some (.dT kvs) ∧ TbG (Sq n) keyI (valI t) kvs
/-- t stays below n and is free of brackets -/
structure Free (n : Nat) (t : Nat → Nat → Nat) : Prop where
  lt : ∀ x y, x < n → y < n → t x y < n
  as : ∀ x y z, x < n → y < n → z < n → t (t x y) z = t x (t y z)
def freeB (n : Nat) (t : Nat → Nat → Nat) : Bool := (List.range n).all fun x => (List.range n).all fun y => decide (t x y < n) && (List.range n).all fun z => decide (t (t x y) z = t x (t y z))
theorem free_of {n : Nat} {t : Nat → Nat → Nat} (h : freeB n t = true) : Free n t := by
  unfold freeB at h
  simp only [List.all_eq_true, List.mem_range, Bool.and_eq_true, decide_eq_true_eq] at h
  exact ⟨fun x y hx hy => (h x hx y hy).1, fun x y z hx hy hz => (h x hx y hy).2 z hz⟩
theorem Free.turn {n : Nat} {t : Nat → Nat → Nat} (h : Free n t) : Free n fun x y => t y x := ⟨fun x y hx hy => h.lt y x hy hx, fun x y z hx hy hz => (h.as z y x hz hy hx).symm⟩
theorem sq_list {n : Nat} : ∀ i, Sq n i → i ∈ (List.range n).flatMap fun x => (List.range n).map fun y => (x, y) := fun i h => List.mem_flatMap.mpr ⟨i.1, List.mem_range.mpr h.1, List.mem_map.mpr ⟨i.2, List.mem_range.mpr h.2, rfl⟩⟩
theorem sq_len {n : Nat} {t : Nat → Nat → Nat} {kvs : List (List Key × V)} {S : Ix → Prop} {key : Ix → List Key} {val : Ix → V} (h : TbG S key val kvs) (k : ∀ i, S i → Sq n i) : kvs.length ≤ n * n := by
  refine Nat.le_trans (h.len _ fun i hi => sq_list i (k i hi)) (Nat.le_of_eq ?_)
  simp [List.length_flatMap, List.map_const', List.sum_replicate_nat]
end KT
set_option linter.all false
set_option maxRecDepth 100000
namespace KT
def plainT (way n x y : Nat) : Nat :=
  let f (r : Nat) : Nat := r - (n - 1) * (if r > n then 1 else 0)
  match way with
  | 0 => x
  | 1 => y
  | 2 => 0
  | 3 => min x y
  | 4 => (x + y) % n
  | 5 => min (x + y + 1) (n - 1)
  | 6 => if x = y then x else 0
  | _ => min (f (f (f (f (x + y + 2))))) n - 1
def wideT (t : Nat → Nat → Nat) (n late x y : Nat) : Nat := if x < n ∧ y < n then t x y else if late = 0 then n else if x = n then y else x
def twofoldT (a b : Nat → Nat → Nat) (x y : Nat) : Nat := 2 * a (x / 2) (y / 2) + b (x % 2) (y % 2)
def twinT (t : Nat → Nat → Nat) (n w x y : Nat) : Nat := t (if x < n then x else w) (if y < n then y else w)
def leadT (t : Nat → Nat → Nat) (n x y : Nat) : Nat := if x < n ∧ y < n then t x y else if y = n then (if x = n then n else 0) else y
def cyclicT (n lead x y : Nat) : Nat := (if x + y + 2 ≤ n then x + y + 2 else lead + (x + y + 2 - lead) % (n - lead + 1)) - 1
theorem plain_free : ∀ way, way < 8 → ∀ n, n < 5 → 0 < n → freeB n (plainT way n) = true := by decide +kernel
theorem wide_free : ∀ way, way < 8 → ∀ n, n < 4 → 0 < n → ∀ late, late < 2 → freeB (n + 1) (wideT (plainT way n) n late) = true := by decide +kernel
theorem twofold_free : ∀ way, way < 8 → ∀ v, v < 8 → freeB 4 (twofoldT (plainT way 2) (plainT v 2)) = true := by decide +kernel
theorem twin_free : ∀ way, way < 8 → ∀ n, n < 4 → 0 < n → ∀ w, w < n → freeB (n + 1) (twinT (plainT way n) n w) = true := by decide +kernel
theorem lead_free : ∀ way, way < 3 → 0 < way → ∀ n, n < 4 → 0 < n → freeB (n + 1) (leadT (plainT way n) n) = true := by decide +kernel
theorem cyclic_free : ∀ n, n < 5 → 0 < n → ∀ lead, lead < n + 1 → 0 < lead → freeB n (cyclicT n lead) = true := by decide +kernel
end KT
set_option Elab.async false
set_option linter.all false
set_option maxRecDepth 100000
set_option maxHeartbeats 4000000
namespace KT
open PySem L2 PyProof.Rows DTp
section
variable {P : Program} {w : World} {K : PySem.W.Frag} {mg : Str → Option Value} {base : Heap}
def spPlain : Sp := fun vs H Q _ => ∃ way n : Nat, vs = [.int way, .int n] ∧ way < 8 ∧ 0 < n ∧ n < 5 ∧ ∀ (d : Addr) (H' : Hp), L2.Same H H' → H d = none → TabAt H' d n (plainT way n) → Q (.ref d) H'
abbrev nPlain : List Str := ["_law_way", "_law_many", "_law_told", "_law_x", "_law_y", "_law_raised", "_law_spin", "_law_some"]
theorem scPlain : FnScope nPlain ["_law_way", "_law_many"] (defScope sPlain) := ⟨rfl, rfl, rfl, by decide +kernel, rfl, by decide +kernel, by decide +kernel⟩
/-- one entry more, row by row -/
theorem TbG.next {val : Ix → V} {kvs : List (List Key × V)} {n x y : Nat} (h : TbG (fun i : Ix => (i.1 < x ∧ i.2 < n) ∨ (i.1 = x ∧ i.2 < y)) keyI val kvs) : TbG (fun i : Ix => (i.1 < x ∧ i.2 < n) ∨ (i.1 = x ∧ i.2 < y + 1)) keyI val (putK kvs (keyI (x, y)) (val (x, y))) :=
  (h.put keyI_inj (x, y)).congr fun i => by
    obtain ⟨a, b⟩ := i
    simp only [Prod.mk.injEq]
    omega
theorem TbG.row {val : Ix → V} {kvs : List (List Key × V)} {n x : Nat} (h : TbG (fun i : Ix => (i.1 < x ∧ i.2 < n) ∨ (i.1 = x ∧ i.2 < n)) keyI val kvs) : TbG (fun i : Ix => i.1 < x + 1 ∧ i.2 < n) keyI val kvs :=
  h.congr fun i => by
    obtain ⟨a, b⟩ := i
    show (a < x ∧ b < n ∨ a = x ∧ b < n) ↔ (a < x + 1 ∧ b < n)
    omega
theorem TbG.row0 {val : Ix → V} {kvs : List (List Key × V)} {n x : Nat} (h : TbG (fun i : Ix => i.1 < x ∧ i.2 < n) keyI val kvs) : TbG (fun i : Ix => (i.1 < x ∧ i.2 < n) ∨ (i.1 = x ∧ i.2 < 0)) keyI val kvs :=
  h.congr fun i => by
    obtain ⟨a, b⟩ := i
    show (a < x ∧ b < n) ↔ (a < x ∧ b < n ∨ a = x ∧ b < 0)
    omega
theorem TbG.few {val : Ix → V} {kvs : List (List Key × V)} {S : Ix → Prop} (h : TbG S keyI val kvs) (k : ∀ i, S i → i.1 < 5 ∧ i.2 < 5) : kvs.length < sizeLine := by
  have e := sq_len (n := 5) (t := fun _ _ => 0) h k
  rw [sizeLine_eq]; omega
def liftR (n r : Nat) : Nat := r - (n - 1) * (if r > n then 1 else 0)
def plainL (n x y r : Nat) : List Int := [0 + (x : Int), 0 + (y : Int), 0, if (0 + (y : Int)) < 0 + x then 0 + (y : Int) else 0 + x, (0 + (x : Int) + (0 + (y : Int))).fmod n, if (n : Int) - 1 < 0 + x + (0 + y) + 1 then (n : Int) - 1 else 0 + x + (0 + y) + 1,
  if x = y then 0 + (x : Int) else 0, (if (n : Int) < r then (n : Int) else r) - 1]
def plainB : Bool := (List.range 5).all fun n => n == 0 || (List.range n).all fun x => (List.range n).all fun y => (List.range 8).all fun way => decide ((plainL n x y (Nat.repeat (liftR n) 4 (x + y + 2)))[way]? = some ((plainT way n x y : Nat) : Int))
theorem plainB_ok : plainB = true := by decide +kernel
theorem plain_val (n : Nat) (n5 : n < 5) (n0 : 0 < n) (x : Nat) (hx : x < n) (y : Nat) (hy : y < n) (way : Nat) (hw : way < 8) : (plainL n x y (Nat.repeat (liftR n) 4 (x + y + 2)))[way]? = some ((plainT way n x y : Nat) : Int) := by
  have h := plainB_ok
  unfold plainB at h
  simp only [List.all_eq_true, List.mem_range, Bool.or_eq_true, decide_eq_true_eq] at h
  rcases h n n5 with z | z
  · have : n = 0 := by simpa using z
    omega
  · exact z x hx y hy way hw
theorem ok_plain {f : Addr} {fd : FuncData} (F : Fun K "_law_plain_table" "_law_plain_table" sPlain f fd) (T : Blt mg) : FnOk P w K mg base CX0 1 f fd ["_law_way", "_law_many"] spPlain := by
  refine F.ok scPlain (fun vs H Q E h => ?_) (fun cdv A outer s H vs Q E hr h => ?_)
  · obtain ⟨way, n, rfl, _⟩ := h
    rfl
  · obtain ⟨way, n, rfl, hw, n0, n5, k⟩ := h
    have nd := scPlain.nd
    refine ⟨_, pss_cons (ps_set (i := 2) nd rfl (Or.inl rfl) pe_dnewT)
      (pss_cons (ps_for PassesOwn.never rfl (pi_range1 rfl T.range (pa_cons (pv 1) pa_nil)) (pg_name (i := 3) nd rfl (Or.inl rfl))
        (pss_one (ps_for PassesOwn.never rfl (pi_range1 rfl T.range (pa_cons (pv 1) pa_nil)) (pg_name (i := 4) nd rfl (Or.inl rfl))
          (pss_cons (ps_set (i := 5) nd rfl (Or.inl rfl) (pe_op op_add (pe_op op_add (pv 3) (pv 4)) pe_int))
          (pss_cons (ps_for PassesOwn.never rfl (pi_range1 rfl T.range (pa_cons pe_int pa_nil)) (pg_name (i := 6) nd rfl (Or.inl rfl))
            (pss_one (ps_set (i := 5) nd rfl (Or.inl rfl) (pe_op op_sub (pv 5) (pe_op op_mul (pe_op op_sub (pv 1) pe_int) (pe_callTy call_int1 (by rfl) T.int boot_int (pa_cons (pe_cmpR op_gt (pv 5) (pv 1) (nomark _)) pa_nil)))))))
          (pss_cons (ps_set (i := 7) nd rfl (Or.inl rfl) (pe_lst (pa_cons (pv 3) (pa_cons (pv 4) (pa_cons pe_int (pa_cons (pe_callB (call_min2 rfl) (by rfl) T.min (by decide +kernel) (pa_cons (pv 3) (pa_cons (pv 4) pa_nil)))
              (pa_cons (pe_op op_modN (pe_callTy call_int1 (by rfl) T.int boot_int (pa_cons (pe_op op_add (pv 3) (pv 4)) pa_nil)) (pv 1))
              (pa_cons (pe_callB (call_min2 rfl) (by rfl) T.min (by decide +kernel) (pa_cons (pe_op op_add (pe_op op_add (pv 3) (pv 4)) pe_int) (pa_cons (pe_op op_sub (pv 1) pe_int) pa_nil))) pa_nil))))))))
          (pss_one (ps_dput (hu_of hr) (pv 2) (pe_tup (pa_cons (pv 3) (pa_cons (pv 4) pa_nil)))
            (pe_ix ix_list (pe_op op_cat (pv 7) (pe_lst (pa_cons (pe_ifExp (pt_cmpR op_eq (pv 3) (pv 4) (nomark _)) (pv 3) pe_int)
              (pa_cons (pe_op op_sub (pe_callB (call_min2 rfl) (by rfl) T.min (by decide +kernel) (pa_cons (pv 5) (pa_cons (pv 1) pa_nil))) pe_int) pa_nil)))) (pv 0) (fun _ _ => rfl)) rfl))))))))
      (pss_one (ps_ret (pv 2)))), ?_⟩
    refine fun d hd => ?_
    refine ⟨_, rfl, _, rfl, by omega, by omega, ?_⟩
    refine for_range (lo := 0) (n := (n : Int).toNat) (fun x σ H' => ∃ (x3 x4 x5 x6 x7 : Option V) (kvs : List (List Key × V)), σ = [some (.int way), some (.int n), some (.ref d), x3, x4, x5, x6, x7] ∧ L2.Same H H' ∧ H' d = some (.dT kvs) ∧ TbG (fun i : Ix => i.1 < x ∧ i.2 < n) keyI (valI (plainT way n)) kvs) ?_ ?_ ?_
    · exact ⟨_, _, _, _, _, [], rfl, Same.new hd, upd_same, TbG.nil.congr fun i => by simp⟩
    · rintro x σ H1 hx ⟨x3, x4, x5, x6, x7, kvs, rfl, s1, hd1, tb⟩
      refine ⟨_, rfl, _, rfl, by omega, by omega, ?_⟩
      refine for_range (lo := 0) (n := (n : Int).toNat) (fun y σ H' => ∃ (x4 x5 x6 x7 : Option V) (kvs : List (List Key × V)), σ = [some (.int way), some (.int n), some (.ref d), some (.int (0 + x)), x4, x5, x6, x7] ∧ L2.Same H H' ∧ H' d = some (.dT kvs) ∧ TbG (fun i : Ix => (i.1 < x ∧ i.2 < n) ∨ (i.1 = x ∧ i.2 < y)) keyI (valI (plainT way n)) kvs) ?_ ?_ ?_
      · exact ⟨_, _, _, _, kvs, rfl, s1, hd1, tb.row0⟩
      · rintro y σ H2 hy ⟨x4, x5, x6, x7, kvs, rfl, s2, hd2, tb⟩
        have hxn : x < n := by omega
        have hyn : y < n := by omega
        refine ⟨_, rfl, _, rfl, _, _, rfl, rfl, _, _, rfl, rfl, ?_⟩
        refine at_name (σ' := [some (.int way), some (.int n), some (.ref d), some (.int (0 + x)), some (.int (0 + y)), some (.int ((x + y + 2 : Nat) : Int)), x6, x7]) (by
          have e : (0 + (x : Int)) + (0 + (y : Int)) + 2 = ((x + y + 2 : Nat) : Int) := by omega
          rw [← e]
          rfl) ?_
        refine ⟨4, rfl, by decide, by decide, ?_⟩
        refine for_range (lo := 0) (n := 4) (fun j σ H' => H' = H2 ∧ ∃ (x6 : Option V) (r : Nat), σ = [some (.int way), some (.int n), some (.ref d), some (.int (0 + x)), some (.int (0 + y)), some (.int (r : Int)), x6, x7] ∧ r ≤ 10 ∧ 2 ≤ r ∧ r = Nat.repeat (liftR n) j (x + y + 2)) ?_ ?_ ?_
        · exact ⟨rfl, _, _, rfl, by omega, by omega, rfl⟩
        · rintro j σ H3 hj ⟨rfl, x6, r, rfl, r10, r2, er⟩
          refine ⟨_, rfl, _, rfl, _, _, rfl, rfl, _, rfl, _, rfl, _, _, rfl, rfl, .inr ⟨_, rfl, _, _, rfl, rfl, .inl ⟨by omega, by omega⟩, _, _, rfl, rfl, ?_⟩⟩
          have er2 : (r : Int) - ((n : Int) - 1) * (if decide ((r : Int) > n) = true then 1 else 0) = (liftR n r : Int) := by
            unfold liftR
            by_cases z : r > n
            · rw [if_pos (by simpa using z), if_pos z, Nat.mul_one, Int.mul_one]; omega
            · rw [if_neg (by simpa using z), if_neg z]; simp
          refine ⟨rfl, some (.int (0 + (j : Nat))), liftR n r, ?_, ?_, ?_, ?_⟩
          · rw [← er2]; rfl
          · unfold liftR; omega
          · unfold liftR
            split
            · rw [Nat.mul_one]; omega
            · omega
          · rw [er]; rfl
        · rintro σ H3 ⟨rfl, x6, r, rfl, r10, r2, er⟩
          refine ⟨_, rfl, _, rfl, _, rfl, _, rfl, _, _, rfl, ?_⟩
          refine ⟨_, rfl, _, rfl, _, _, rfl, rfl, .inl ⟨_, rfl, _, rfl, _, _, rfl, rfl, by omega, ?_⟩⟩
          refine ⟨_, rfl, _, rfl, _, _, rfl, rfl, _, _, rfl, rfl, _, rfl, _, _, rfl, rfl, _, _, rfl, ?_⟩
          refine ⟨(by show 6 ≤ sizeLine; decide), fun l hl => ?_⟩
          have e3 := Same.new (H := H3) (o := .lst [V.int (0 + x), V.int (0 + y), V.int 0, V.int (if (0 + (y : Int)) < 0 + x then 0 + y else 0 + x), V.int ((0 + (x : Int) + (0 + y)).fmod n), V.int (if (n : Int) - 1 < 0 + x + (0 + y) + 1 then n - 1 else 0 + x + (0 + y) + 1)]) hl
          have e4 : upd H3 l (.lst [V.int (0 + x), V.int (0 + y), V.int 0, V.int (if (0 + (y : Int)) < 0 + x then 0 + y else 0 + x), V.int ((0 + (x : Int) + (0 + y)).fmod n), V.int (if (n : Int) - 1 < 0 + x + (0 + y) + 1 then n - 1 else 0 + x + (0 + y) + 1)]) l = _ := upd_same
          refine at_name (σ' := [some (.int way), some (.int n), some (.ref d), some (.int (0 + x)), some (.int (0 + y)), some (.int (r : Int)), x6, some (.ref l)]) rfl ?_
          generalize upd H3 l (.lst [V.int (0 + x), V.int (0 + y), V.int 0, V.int (if (0 + (y : Int)) < 0 + x then 0 + y else 0 + x), V.int ((0 + (x : Int) + (0 + y)).fmod n), V.int (if (n : Int) - 1 < 0 + x + (0 + y) + 1 then n - 1 else 0 + x + (0 + y) + 1)]) = H4 at e3 e4 ⊢
          have hd4 := e3 _ _ hd2
          refine ⟨_, rfl, _, rfl, _, rfl, rfl, _, rfl, ?_⟩
          have exy : decide (V.int (0 + (x : Int)) = V.int (0 + (y : Int))) = decide (x = y) := by
            rw [Int.zero_add, Int.zero_add]
            by_cases z : x = y
            · simp [z]
            · have : ¬ (x : Int) = (y : Int) := by omega
              simp [z, this]
          rw [exy]
          refine ite2 (fun hxy => ?_) (fun hxy => ?_)
          · refine ⟨_, rfl, ?_⟩
            refine ⟨_, rfl, _, rfl, _, _, rfl, _, _, rfl, rfl, (by show 2 ≤ sizeLine; decide), fun l2 hl2 => ?_⟩
            have f1 := Same.new (H := H4) (o := .lst [V.int (0 + (x : Int)), V.int ((if (n : Int) < r then (n : Int) else r) - 1)]) hl2
            have f2 : upd H4 l2 (.lst [V.int (0 + (x : Int)), V.int ((if (n : Int) < r then (n : Int) else r) - 1)]) l2 = _ := upd_same
            generalize upd H4 l2 (.lst [V.int (0 + (x : Int)), V.int ((if (n : Int) < r then (n : Int) else r) - 1)]) = H5 at f1 f2 ⊢
            refine ⟨l, l2, _, _, rfl, rfl, f1 _ _ e4, f2, (by show 6 + 2 ≤ sizeLine; decide), fun l3 hl3 => ?_⟩
            have g1 := Same.new (H := H5) (o := .lst ((plainL n x y r).map V.int)) hl3
            have g2 : upd H5 l3 (.lst ((plainL n x y r).map V.int)) l3 = _ := upd_same
            have pl := plain_val n n5 n0 x hxn y hyn way hw
            rw [← er] at pl
            have eqL : ([V.int (0 + (x : Int)), V.int (0 + (y : Int)), V.int 0, V.int (if (0 + (y : Int)) < 0 + x then 0 + (y : Int) else 0 + x), V.int ((0 + (x : Int) + (0 + (y : Int))).fmod n), V.int (if (n : Int) - 1 < 0 + x + (0 + y) + 1 then (n : Int) - 1 else 0 + x + (0 + y) + 1)] ++ [V.int (0 + (x : Int)), V.int ((if (n : Int) < r then (n : Int) else r) - 1)] : List V) = (plainL n x y r).map V.int := by
              unfold plainL
              rw [if_pos (of_decide_eq_true hxy)]
              rfl
            rw [eqL]
            generalize upd H5 l3 (.lst ((plainL n x y r).map V.int)) = H6 at g1 g2 ⊢
            refine ⟨_, rfl, l3, _, (way : Int), .int (plainT way n x y), rfl, rfl, SqL.of g2, atI_nat (by rw [List.getElem?_map, pl]; rfl), ?_⟩
            refine ⟨_, rfl, _, rfl, _, rfl, (by show 2 ≤ sizeLine; decide), fun t ht => ?_⟩
            have h1 := Same.new (H := H6) (o := .tup [V.int (0 + x), V.int (0 + y)]) ht
            have h2 : upd H6 t (.tup [V.int (0 + x), V.int (0 + y)]) t = some (.tup ((keyI (x, y)).map kV)) := by
              rw [upd_same]
              show _ = some (HO.tup [V.int (x : Int), V.int (y : Int)])
              rw [Int.zero_add, Int.zero_add]
            have hd6 : upd H6 t (.tup [V.int (0 + x), V.int (0 + y)]) d = some (.dT kvs) := h1 _ _ (g1 _ _ (f1 _ _ hd4))
            refine ⟨d, _, rfl, DPut.t (k := keyI (x, y)) hd6 h2 (tb.few fun i hi => by omega), ?_⟩
            refine ⟨_, _, _, _, _, rfl, fun b o e => ?_, upd_same, tb.next⟩
            rw [upd_ne (ne_of_none e hd)]
            exact h1 _ _ (g1 _ _ (f1 _ _ (e3 _ _ (s2 _ _ e))))
          · refine ⟨_, rfl, _, rfl, _, _, rfl, _, _, rfl, rfl, (by show 2 ≤ sizeLine; decide), fun l2 hl2 => ?_⟩
            have f1 := Same.new (H := H4) (o := .lst [V.int (0 : Int), V.int ((if (n : Int) < r then (n : Int) else r) - 1)]) hl2
            have f2 : upd H4 l2 (.lst [V.int (0 : Int), V.int ((if (n : Int) < r then (n : Int) else r) - 1)]) l2 = _ := upd_same
            generalize upd H4 l2 (.lst [V.int (0 : Int), V.int ((if (n : Int) < r then (n : Int) else r) - 1)]) = H5 at f1 f2 ⊢
            refine ⟨l, l2, _, _, rfl, rfl, f1 _ _ e4, f2, (by show 6 + 2 ≤ sizeLine; decide), fun l3 hl3 => ?_⟩
            have g1 := Same.new (H := H5) (o := .lst ((plainL n x y r).map V.int)) hl3
            have g2 : upd H5 l3 (.lst ((plainL n x y r).map V.int)) l3 = _ := upd_same
            have pl := plain_val n n5 n0 x hxn y hyn way hw
            rw [← er] at pl
            have eqL : ([V.int (0 + (x : Int)), V.int (0 + (y : Int)), V.int 0, V.int (if (0 + (y : Int)) < 0 + x then 0 + (y : Int) else 0 + x), V.int ((0 + (x : Int) + (0 + (y : Int))).fmod n), V.int (if (n : Int) - 1 < 0 + x + (0 + y) + 1 then (n : Int) - 1 else 0 + x + (0 + y) + 1)] ++ [V.int (0 : Int), V.int ((if (n : Int) < r then (n : Int) else r) - 1)] : List V) = (plainL n x y r).map V.int := by
              unfold plainL
              rw [if_neg (fun e => hxy (decide_eq_true e))]
              rfl
            rw [eqL]
            generalize upd H5 l3 (.lst ((plainL n x y r).map V.int)) = H6 at g1 g2 ⊢
            refine ⟨_, rfl, l3, _, (way : Int), .int (plainT way n x y), rfl, rfl, SqL.of g2, atI_nat (by rw [List.getElem?_map, pl]; rfl), ?_⟩
            refine ⟨_, rfl, _, rfl, _, rfl, (by show 2 ≤ sizeLine; decide), fun t ht => ?_⟩
            have h1 := Same.new (H := H6) (o := .tup [V.int (0 + x), V.int (0 + y)]) ht
            have h2 : upd H6 t (.tup [V.int (0 + x), V.int (0 + y)]) t = some (.tup ((keyI (x, y)).map kV)) := by
              rw [upd_same]
              show _ = some (HO.tup [V.int (x : Int), V.int (y : Int)])
              rw [Int.zero_add, Int.zero_add]
            have hd6 : upd H6 t (.tup [V.int (0 + x), V.int (0 + y)]) d = some (.dT kvs) := h1 _ _ (g1 _ _ (f1 _ _ hd4))
            refine ⟨d, _, rfl, DPut.t (k := keyI (x, y)) hd6 h2 (tb.few fun i hi => by omega), ?_⟩
            refine ⟨_, _, _, _, _, rfl, fun b o e => ?_, upd_same, tb.next⟩
            rw [upd_ne (ne_of_none e hd)]
            exact h1 _ _ (g1 _ _ (f1 _ _ (e3 _ _ (s2 _ _ e))))
      · rintro σ H2 ⟨x4, x5, x6, x7, kvs, rfl, s2, hd2, tb⟩
        have hn : (n : Int).toNat = n := by omega
        rw [hn] at tb
        exact ⟨_, _, _, _, _, kvs, rfl, s2, hd2, tb.row⟩
    · rintro σ H1 ⟨x3, x4, x5, x6, x7, kvs, rfl, s1, hd1, tb⟩
      have hn : (n : Int).toNat = n := by omega
      rw [hn] at tb
      exact ⟨_, rfl, k d H1 s1 hd ⟨kvs, hd1, tb⟩⟩
end
end KT
set_option Elab.async false
set_option linter.all false
set_option maxRecDepth 100000
set_option maxHeartbeats 4000000
namespace KT
open PySem L2 PyProof.Rows DTp
section
variable {P : Program} {w : World} {K : PySem.W.Frag} {mg : Str → Option Value} {base : Heap}
section
variable {ι : Type} {key : ι → List Key} {val : ι → V}
/-- each an entry's tuple -/
def PrG (key : ι → List Key) (val : ι → V) (H : Hp) : List Addr → List ι → Prop := Paired fun p i => ∃ b, H p = some (.tup [.ref b, val i]) ∧ H b = some (.tup ((key i).map kV))
theorem PrG.mono {H H' : Hp} (s : L2.Same H H') {ps : List Addr} {is : List ι} (h : PrG key val H ps is) : PrG key val H' ps is := Paired.mapP h fun _ _ ⟨b, h1, h2⟩ => ⟨b, s _ _ h1, s _ _ h2⟩
theorem PrG.prT {H : Hp} : ∀ {ps : List Addr} {is : List ι}, PrG key val H ps is → PrT K H ps (is.map fun i => (key i, val i))
  | _, _, .nil => .nil
  | _, _, .cons ⟨b, h1, h2⟩ t => .cons ⟨b, SqT.of h1, h2⟩ (PrG.prT t)
theorem lc_pairs {J : It} {n : Nat} {G : Hp → Prop} {Y : Nat → Hp → V → Hp → Prop} (W : Walk J n G Y) {g : TG} {te : TE} {vs : List Nat} {σ : L2.St} {H1 : Hp} {D : Addr} {Qd : Hp → Prop} (is : List ι) (hn : is.length = n) (few : n ≤ 1000) (hD : H1 D = none) (stay : ∀ H', L2.Same H1 H' → G H')
    (step : ∀ i x H H' j (R : VK), is[i]? = some j → L2.Same H1 H → Y i H x H' → (∀ t b H3, L2.Same H H3 → H3 t = some (.tup [.ref b, val j]) → H3 b = some (.tup ((key j).map kV)) → R (.ref t) H3) → g x (wipe σ vs) H' fun σ2 H2 => wipe σ2 vs = wipe σ vs ∧ te σ2 H2 R)
    (done : ∀ H' ps, L2.Same H1 H' → H' D = some (.lst (ps.map V.ref)) → PrG key val H' ps is → Qd H') :
    ∃ W : Nat → Nat → Hp → Prop, (∃ m, W 0 m (upd H1 D (.lst []))) ∧ ∀ i m H, W i m H →
      (J.stop i H ∧ Qd H) ∨ (J.go i H ∧ ∃ Nx : Hp → Prop, (∀ H', Nx H' → ∃ m', m' < m ∧ W (i + 1) m' H') ∧ ∀ x H', J.yld i H x H' → g x (wipe σ vs) H' fun σ2 H2 => wipe σ2 vs = wipe σ vs ∧ tYes σ2 H2 fun b H3 =>
        if b = true then te σ2 H3 fun y H4 => ∃ acc, H4 D = some (.lst acc) ∧ acc.length < sizeLine ∧ Nx (upd H4 D (.lst (acc ++ [y]))) else Nx H3) := by
  refine lc_it W (tt := tYes) (fun i H' => L2.Same H1 H' ∧ ∃ ps : List Addr, H' D = some (.lst (ps.map V.ref)) ∧ PrG key val H' ps (is.take i)) ⟨Same.new hD, [], upd_same, .nil⟩ (fun i H' _ h => stay H' h.1) (fun i x H H' hi h y => ?_) (fun H' h => ?_)
  · obtain ⟨s1, ps, hDp, pr⟩ := h
    have hi' : i < is.length := by omega
    have ej : is[i]? = some is[i] := List.getElem?_eq_getElem hi'
    refine step i x H H' is[i] _ ej s1 y fun t b H3 s2 ht hb => ⟨_, s2 _ _ hDp, ?_, ?_, ps ++ [t], ?_, ?_⟩
    · rw [List.length_map, Paired.length pr, List.length_take]
      exact small1000 (by omega)
    · intro c o e
      rw [upd_ne (ne_of_none e hD)]
      exact s2 _ _ (s1 _ _ e)
    · rw [List.map_append]
      exact upd_same
    · rw [take_next' ej]
      have keep : ∀ c u, H3 c = some (.tup u) → (upd H3 D (.lst (ps.map V.ref ++ [V.ref t]))) c = some (.tup u) := fun c u e => by
        rw [upd_ne (ne_of e (s2 _ _ hDp) (fun z => nomatch z))]
        exact e
      exact Paired.snoc (Paired.mapP pr fun p i ⟨b', h1, h2⟩ => ⟨b', keep _ _ (s2 _ _ h1), keep _ _ (s2 _ _ h2)⟩) ⟨b, keep _ _ ht, keep _ _ hb⟩
  · obtain ⟨s1, ps, hDp, pr⟩ := h
    rw [← hn, List.take_length] at pr
    exact done H' ps s1 hDp pr
end
/-- dict([(key, told[key]) for key in told]) -/
theorem rd_copy {ι : Type} {key : ι → List Key} {val : ι → V} {i j : Nat} {σ : L2.St} {H : Hp} {Q : VK} {d : Addr} {S : ι → Prop} {kvs : List (List Key × V)} (inj : ∀ a b, key a = key b → a = b) (hi : σ[i]? = some (some (.ref d))) (hij : i ≠ j) (hj : j < σ.length) (hd : H d = some (.dT kvs)) (tb : TbG S key val kvs) (few : kvs.length ≤ 1000)
    (k : ∀ q H' kvs', L2.Same H H' → H q = none → H' q = some (.dT kvs') → TbG S key val kvs' → Q (.ref q) H') :
    tCB (rDictT K) (tCons (tLockE (tLc (iKeys (tVar i)) (gName j) tYes (tTup (tCons (tVar j) (tCons (tDGet (tVar i) (tVar j)) tNil))) [j])) tNil) σ H Q := by
  obtain ⟨is, e1, ndi, e2⟩ := tb.idxs inj
  have li : is.length = kvs.length := by rw [e1, List.length_map]
  refine ⟨d, .dT kvs, hd, trivial, fun od => ?_⟩
  refine ⟨_, hi, d, od, rfl, .inr ⟨kvs, upd_same, fun D hD => ?_⟩⟩
  have nDd : D ≠ d := fun e => by rw [e, upd_same] at hD; cases hD
  have hD0 : H D = none := by rw [upd_ne nDd] at hD; exact hD
  refine lc_pairs (key := key) (val := val) walk_keysT is li few hD (fun H' s => s _ _ upd_same) ?_ ?_
  · rintro n x H1 H1' a R ha s1 ⟨rfl, kk, v, q, hk, rfl, hq⟩ kR
    have ek : kvs[n]? = some (key a, val a) := by rw [e1, List.getElem?_map, ha]; rfl
    rw [hk] at ek
    have ek := Option.some.inj ek
    obtain ⟨rfl, rfl⟩ : kk = key a ∧ v = val a := ⟨congrArg Prod.fst ek, congrArg Prod.snd ek⟩
    have sj : ((wipe σ [j]).set j (some (V.ref q)))[j]? = some (some (.ref q)) := by
      rw [List.getElem?_set_self (by rw [wipe_length]; exact hj)]
    have si : ((wipe σ [j]).set j (some (V.ref q)))[i]? = some (some (.ref d)) := by
      rw [List.getElem?_set_ne hij.symm, wipe_out (by simpa using hij)]
      exact hi
    refine ⟨?_, ?_⟩
    · show (((σ.set j none).set j (some (V.ref q))).set j none) = σ.set j none
      rw [List.set_set, List.set_set]
    · have gt : valV kvs (key a) = some (val a) := tb.get ((e2 a).mpr (List.mem_of_getElem? ha))
      refine ⟨_, sj, _, si, _, sj, d, val a, rfl, .inr ⟨kvs, key a, q, .inr ⟨od, s1 _ _ upd_same⟩, rfl, hq, gt.symm⟩, (by show 2 ≤ sizeLine; decide), fun t ht => ?_⟩
      exact kR t q _ (Same.new ht) upd_same ((upd_ne (ne_of_none hq ht)).trans hq)
  · intro H1 ps s1 hDp pr
    have hdl : H1 d = some (.frz od (.dT kvs)) := s1 _ _ upd_same
    refine ⟨hdl, D, ps, is.map (fun i => (key i, val i)), rfl, SqL.of ((upd_ne nDd).trans hDp), ?_, fun q hq => ?_⟩
    · refine PrG.prT (key := key) (val := val) (is := is) (Paired.mapP pr fun p a ⟨b, h1, h2⟩ => ⟨b, ?_, ?_⟩)
      · rw [upd_ne (ne_of h1 hdl (fun z => nomatch z))]; exact h1
      · rw [upd_ne (ne_of h2 hdl (fun z => nomatch z))]; exact h2
    · have same : L2.Same H (upd H1 d (.dT kvs)) := fun b o e => by
        by_cases hb : b = d
        · rw [hb] at e ⊢
          rw [hd] at e
          rw [upd_same]; exact e
        · rw [upd_ne hb]
          exact s1 _ _ ((upd_ne hb).trans e)
      have hq0 := same.free hq
      refine k q _ (mergeT [] (is.map fun i => (key i, val i))) (fun b o e => ?_) hq0 upd_same ?_
      · rw [upd_ne (ne_of_none e hq0)]
        exact same _ _ e
      · exact (TbG.merge inj is TbG.nil).congr fun a => by rw [false_or]; exact (e2 a).symm
end
end KT
set_option Elab.async false
set_option linter.all false
set_option maxRecDepth 100000
set_option maxHeartbeats 4000000
namespace KT
open PySem L2 PyProof.Rows DTp
section
variable {P : Program} {w : World} {K : PySem.W.Frag} {mg : Str → Option Value} {base : Heap}
theorem u2 {u : Nat} (h : u + 64 < cLine) : u + 2 < cLine := by omega
/-- d[x, y] of a table -/
theorem TabAt.get {H : Hp} {a b : Addr} {n x y : Nat} {t : Nat → Nat → Nat} (h : TabAt H a n t) (hx : x < n) (hy : y < n) (hb : H b = some (.tup [V.int (x : Int), V.int (y : Int)])) : DGet H a (.ref b) (some (.int (t x y))) := by
  obtain ⟨kvs, h1, h2⟩ := h
  have e := DGet.t (k := keyI (x, y)) h1 hb
  rw [h2.get (i := (x, y)) ⟨hx, hy⟩] at e
  exact e
theorem TabAt.mono {H H' : Hp} {a : Addr} {n : Nat} {t : Nat → Nat → Nat} (s : L2.Same H H') (h : TabAt H a n t) : TabAt H' a n t := let ⟨kvs, h1, h2⟩ := h; ⟨kvs, s _ _ h1, h2⟩
def spWide : Sp := fun vs H Q _ => ∃ (d : Addr) (n late : Nat) (t : Nat → Nat → Nat), vs = [.ref d, .int n, .int late] ∧ 0 < n ∧ n < 4 ∧ TabAt H d n t ∧ ∀ (q : Addr) (H' : Hp), L2.Same H H' → H q = none → TabAt H' q (n + 1) (wideT t n late) → Q (.ref q) H'
abbrev nWide : List Str := ["_law_told", "_law_many", "_law_way", "_law_found", "_law_key", "_law_x"]
theorem scWide : FnScope nWide ["_law_told", "_law_many", "_law_way"] (defScope sWide) := ⟨rfl, rfl, rfl, by decide +kernel, rfl, by decide +kernel, by decide +kernel⟩
theorem ok_wide {f : Addr} {fd : FuncData} (F : Fun K "_law_wide_table" "_law_wide_table" sWide f fd) (T : Blt mg) (hdi : mg "dict" = none) : FnOk P w K mg base CX0 1 f fd ["_law_told", "_law_many", "_law_way"] spWide := by
  refine F.ok scWide (fun vs H Q E h => ?_) (fun cdv A outer s H vs Q E hr h => ?_)
  · obtain ⟨d, n, late, t, rfl, _⟩ := h
    rfl
  · obtain ⟨d, n, late, t, rfl, n0, n4, ⟨kvs, hd, tb⟩, k⟩ := h
    have nd := scWide.nd
    have hun := hr.units
    refine ⟨_, pss_cons (ps_set (i := 3) nd rfl (Or.inl rfl) (pe_callTy (cr_dictT rfl (u2 hr.units)) (by rfl) hdi (by decide +kernel) (pa_cons (pe_lock (pe_lc (own := [("_law_key", 4)]) (g := gName 4) (tt := tYes) (te := tTup (tCons (tVar 4) (tCons (tDGet (tVar 0) (tVar 4)) tNil))) rfl nd (pi_keys (pv 0))
          (blkOk_by (own := [("_law_key", 4)]) (N := nWide) (sc := defScope sWide) (by decide +kernel)) (fun _ _ _ _ _ => pg_name (i := 4) nd rfl (Or.inl rfl)) (fun _ _ _ _ _ => pts_nil) (fun _ _ _ _ _ => pe_tup (pa_cons (pv 4) (pa_cons (pe_dget (hu_of hr) (pv 0) (pv 4) (fun _ _ => rfl)) pa_nil))))) pa_nil)))
      (pss_cons (ps_for PassesOwn.never rfl (pi_range1 rfl T.range (pa_cons (pe_op op_add (pv 1) pe_int) pa_nil)) (pg_name (i := 5) nd rfl (Or.inl rfl))
        (pss_cons (ps_dput (hu_of hr) (pv 3) (pe_tup (pa_cons (pv 5) (pa_cons (pv 1) pa_nil))) (pe_ifExp (pt_cmpR op_eq (pv 2) pe_int (nomark _)) (pv 1) (pv 5)) rfl)
          (pss_one (ps_dput (hu_of hr) (pv 3) (pe_tup (pa_cons (pv 1) (pa_cons (pv 5) pa_nil))) (pe_ifExp (pt_cmpR op_eq (pv 2) pe_int (nomark _)) (pv 1) (pv 5)) rfl))))
      (pss_one (ps_ret (pv 3)))), ?_⟩
    refine rd_copy (key := keyI) (val := valI t) keyI_inj rfl (by decide) (by show 4 < 6; decide) hd tb (by have := tb.few fun i hi => ⟨by omega, by omega⟩; have e := sq_len (n := 4) (t := t) tb fun i hi => ⟨by omega, by omega⟩; omega) fun q H1 kvs1 s1 hq0 hq1 tb1 => ?_
    refine at_name (σ' := [some (.ref d), some (.int n), some (.int late), some (.ref q), none, none]) rfl ?_
    refine ⟨_, rfl, _, _, rfl, rfl, _, rfl, by omega, by omega, ?_⟩
    refine for_range (lo := 0) (n := ((n : Int) + 1).toNat) (fun x σ H' => ∃ (x5 : Option V) (kvs : List (List Key × V)), σ = [some (.ref d), some (.int n), some (.int late), some (.ref q), none, x5] ∧ L2.Same H H' ∧ H' q = some (.dT kvs) ∧ TbG (fun i : Ix => Sq n i ∨ (i.1 < x ∧ i.2 = n) ∨ (i.1 = n ∧ i.2 < x)) keyI (valI (wideT t n late)) kvs) ?_ ?_ ?_
    · refine ⟨_, kvs1, rfl, s1, hq1, (tb1.congrV fun i hi => ?_).congr fun i => ?_⟩
      · show V.int _ = V.int _
        unfold wideT
        rw [if_pos hi]
      · obtain ⟨a, b⟩ := i
        show (a < n ∧ b < n) ↔ ((a < n ∧ b < n) ∨ (a < 0 ∧ b = n) ∨ (a = n ∧ b < 0))
        omega
    · rintro x σ H2 hx ⟨x5, kvs2, rfl, s2, hq2, tb2⟩
      have hxn : x ≤ n := by omega
      have v1 : wideT t n late x n = if late = 0 then n else x := by
        unfold wideT
        rw [if_neg (by omega)]
        split
        · rfl
        · split
          · rename_i e; rw [e]
          · rfl
      have v2 : wideT t n late n x = if late = 0 then n else x := by
        unfold wideT
        rw [if_neg (by omega), if_pos rfl]
      have el : decide (V.int (late : Int) = V.int 0) = decide (late = 0) := by
        by_cases z : late = 0
        · simp [z]
        · have : ¬ (late : Int) = 0 := by omega
          simp [z, this]
      refine at_name (σ' := [some (.ref d), some (.int n), some (.int late), some (.ref q), none, some (.int (x : Int))]) (by rw [Int.zero_add]; rfl) ?_
      refine ⟨_, rfl, rfl, _, rfl, ?_⟩
      rw [el]
      by_cases z : late = 0
      · rw [decide_eq_true z]
        rw [if_pos z] at v1 v2
        refine iteT ⟨_, rfl, ?_⟩
        refine ⟨_, rfl, _, rfl, _, rfl, (by show 2 ≤ sizeLine; decide), fun t1 ht1 => ?_⟩
        have a1 := Same.new (H := H2) (o := .tup [V.int (x : Int), V.int (n : Int)]) ht1
        have a2 : upd H2 t1 (.tup [V.int (x : Int), V.int (n : Int)]) t1 = some (.tup ((keyI (x, n)).map kV)) := upd_same
        generalize upd H2 t1 (.tup [V.int (x : Int), V.int (n : Int)]) = G1 at a1 a2 ⊢
        have tb3 := tb2.put keyI_inj (x, n)
        rw [show valI (wideT t n late) (x, n) = V.int (n : Nat) from congrArg (fun k : Nat => V.int k) v1] at tb3
        refine ⟨q, _, rfl, DPut.t (k := keyI (x, n)) (a1 _ _ hq2) a2 (tb2.few fun i hi => by omega), ?_⟩
        have b1 : upd G1 q (.dT (putK kvs2 (keyI (x, n)) (V.int (n : Nat)))) q = _ := upd_same
        have b2 : L2.Same H (upd G1 q (.dT (putK kvs2 (keyI (x, n)) (V.int (n : Nat))))) := fun b o e => by
          rw [upd_ne (ne_of_none e hq0)]
          exact a1 _ _ (s2 _ _ e)
        generalize putK kvs2 (keyI (x, n)) (V.int (n : Nat)) = kvs3 at tb3 b1 b2 ⊢
        generalize upd G1 q (.dT kvs3) = G2 at b1 b2 ⊢
        refine ⟨_, rfl, rfl, _, rfl, ?_⟩
        rw [el, decide_eq_true z]
        refine iteT ⟨_, rfl, ?_⟩
        refine ⟨_, rfl, _, rfl, _, rfl, (by show 2 ≤ sizeLine; decide), fun t2 ht2 => ?_⟩
        have c1 := Same.new (H := G2) (o := .tup [V.int (n : Int), V.int (x : Int)]) ht2
        have c2 : upd G2 t2 (.tup [V.int (n : Int), V.int (x : Int)]) t2 = some (.tup ((keyI (n, x)).map kV)) := upd_same
        generalize upd G2 t2 (.tup [V.int (n : Int), V.int (x : Int)]) = G3 at c1 c2 ⊢
        have tb4 := tb3.put keyI_inj (n, x)
        rw [show valI (wideT t n late) (n, x) = V.int (n : Nat) from congrArg (fun k : Nat => V.int k) v2] at tb4
        refine ⟨q, _, rfl, DPut.t (k := keyI (n, x)) (c1 _ _ b1) c2 (tb3.few fun i hi => hi.elim (fun h => by omega) fun h => by rw [h]; exact ⟨by show x < 5; omega, by show n < 5; omega⟩), ?_⟩
        refine ⟨_, _, rfl, fun b o e => ?_, upd_same, tb4.congr fun i => ?_⟩
        · rw [upd_ne (ne_of_none e hq0)]
          exact c1 _ _ (b2 _ _ e)
        · obtain ⟨a, b⟩ := i
          simp only [Prod.mk.injEq]
          omega
      · rw [decide_eq_false z]
        rw [if_neg z] at v1 v2
        refine iteF ⟨_, rfl, ?_⟩
        refine ⟨_, rfl, _, rfl, _, rfl, (by show 2 ≤ sizeLine; decide), fun t1 ht1 => ?_⟩
        have a1 := Same.new (H := H2) (o := .tup [V.int (x : Int), V.int (n : Int)]) ht1
        have a2 : upd H2 t1 (.tup [V.int (x : Int), V.int (n : Int)]) t1 = some (.tup ((keyI (x, n)).map kV)) := upd_same
        generalize upd H2 t1 (.tup [V.int (x : Int), V.int (n : Int)]) = G1 at a1 a2 ⊢
        have tb3 := tb2.put keyI_inj (x, n)
        rw [show valI (wideT t n late) (x, n) = V.int (x : Nat) from congrArg (fun k : Nat => V.int k) v1] at tb3
        refine ⟨q, _, rfl, DPut.t (k := keyI (x, n)) (a1 _ _ hq2) a2 (tb2.few fun i hi => by omega), ?_⟩
        have b1 : upd G1 q (.dT (putK kvs2 (keyI (x, n)) (V.int (x : Nat)))) q = _ := upd_same
        have b2 : L2.Same H (upd G1 q (.dT (putK kvs2 (keyI (x, n)) (V.int (x : Nat))))) := fun b o e => by
          rw [upd_ne (ne_of_none e hq0)]
          exact a1 _ _ (s2 _ _ e)
        generalize putK kvs2 (keyI (x, n)) (V.int (x : Nat)) = kvs3 at tb3 b1 b2 ⊢
        generalize upd G1 q (.dT kvs3) = G2 at b1 b2 ⊢
        refine ⟨_, rfl, rfl, _, rfl, ?_⟩
        rw [el, decide_eq_false z]
        refine iteF ⟨_, rfl, ?_⟩
        refine ⟨_, rfl, _, rfl, _, rfl, (by show 2 ≤ sizeLine; decide), fun t2 ht2 => ?_⟩
        have c1 := Same.new (H := G2) (o := .tup [V.int (n : Int), V.int (x : Int)]) ht2
        have c2 : upd G2 t2 (.tup [V.int (n : Int), V.int (x : Int)]) t2 = some (.tup ((keyI (n, x)).map kV)) := upd_same
        generalize upd G2 t2 (.tup [V.int (n : Int), V.int (x : Int)]) = G3 at c1 c2 ⊢
        have tb4 := tb3.put keyI_inj (n, x)
        rw [show valI (wideT t n late) (n, x) = V.int (x : Nat) from congrArg (fun k : Nat => V.int k) v2] at tb4
        refine ⟨q, _, rfl, DPut.t (k := keyI (n, x)) (c1 _ _ b1) c2 (tb3.few fun i hi => hi.elim (fun h => by omega) fun h => by rw [h]; exact ⟨by show x < 5; omega, by show n < 5; omega⟩), ?_⟩
        refine ⟨_, _, rfl, fun b o e => ?_, upd_same, tb4.congr fun i => ?_⟩
        · rw [upd_ne (ne_of_none e hq0)]
          exact c1 _ _ (b2 _ _ e)
        · obtain ⟨a, b⟩ := i
          simp only [Prod.mk.injEq]
          omega
    · rintro σ H2 ⟨x5, kvs2, rfl, s2, hq2, tb2⟩
      refine ⟨_, rfl, k q H2 s2 hq0 ⟨kvs2, hq2, tb2.congr fun i => ?_⟩⟩
      obtain ⟨a, b⟩ := i
      have : ((n : Int) + 1).toNat = n + 1 := by omega
      rw [this]
      show ((a < n ∧ b < n) ∨ (a < n + 1 ∧ b = n) ∨ (a = n ∧ b < n + 1)) ↔ (a < n + 1 ∧ b < n + 1)
      omega
end
end KT
set_option Elab.async false
set_option linter.all false
set_option maxRecDepth 100000
set_option maxHeartbeats 4000000
namespace KT
open PySem L2 PyProof.Rows DTp
section
variable {P : Program} {w : World} {K : PySem.W.Frag} {mg : Str → Option Value} {base : Heap}
def spLead : Sp := fun vs H Q _ => ∃ (d : Addr) (n : Nat) (t : Nat → Nat → Nat), vs = [.ref d, .int n] ∧ 0 < n ∧ n < 4 ∧ TabAt H d n t ∧ ∀ (q : Addr) (H' : Hp), L2.Same H H' → H q = none → TabAt H' q (n + 1) (leadT t n) → Q (.ref q) H'
abbrev nLead : List Str := ["_law_told", "_law_many", "_law_found", "_law_key", "_law_x"]
theorem scLead : FnScope nLead ["_law_told", "_law_many"] (defScope sLeading) := ⟨rfl, rfl, rfl, by decide +kernel, rfl, by decide +kernel, by decide +kernel⟩
theorem ok_lead {f : Addr} {fd : FuncData} (F : Fun K "_law_leading_table" "_law_leading_table" sLeading f fd) (T : Blt mg) (hdi : mg "dict" = none) : FnOk P w K mg base CX0 1 f fd ["_law_told", "_law_many"] spLead := by
  refine F.ok scLead (fun vs H Q E h => ?_) (fun cdv A outer s H vs Q E hr h => ?_)
  · obtain ⟨d, n, t, rfl, _⟩ := h
    rfl
  · obtain ⟨d, n, t, rfl, n0, n4, ⟨kvs, hd, tb⟩, k⟩ := h
    have nd := scLead.nd
    refine ⟨_, pss_cons (ps_set (i := 2) nd rfl (Or.inl rfl) (pe_callTy (cr_dictT rfl (u2 hr.units)) (by rfl) hdi (by decide +kernel) (pa_cons (pe_lock (pe_lc (own := [("_law_key", 3)]) (g := gName 3) (tt := tYes) (te := tTup (tCons (tVar 3) (tCons (tDGet (tVar 0) (tVar 3)) tNil))) rfl nd (pi_keys (pv 0))
          (blkOk_by (own := [("_law_key", 3)]) (N := nLead) (sc := defScope sLeading) (by decide +kernel)) (fun _ _ _ _ _ => pg_name (i := 3) nd rfl (Or.inl rfl)) (fun _ _ _ _ _ => pts_nil) (fun _ _ _ _ _ => pe_tup (pa_cons (pv 3) (pa_cons (pe_dget (hu_of hr) (pv 0) (pv 3) (fun _ _ => rfl)) pa_nil))))) pa_nil)))
      (pss_cons (ps_for PassesOwn.never rfl (pi_range1 rfl T.range (pa_cons (pe_op op_add (pv 1) pe_int) pa_nil)) (pg_name (i := 4) nd rfl (Or.inl rfl))
        (pss_cons (ps_dput (hu_of hr) (pv 2) (pe_tup (pa_cons (pv 4) (pa_cons (pv 1) pa_nil))) (pe_ifExp (pt_cmpR op_eq (pv 4) (pv 1) (nomark _)) (pv 1) pe_int) rfl)
          (pss_one (ps_dput (hu_of hr) (pv 2) (pe_tup (pa_cons (pv 1) (pa_cons (pv 4) pa_nil))) (pv 4) rfl))))
      (pss_one (ps_ret (pv 2)))), ?_⟩
    refine rd_copy (key := keyI) (val := valI t) keyI_inj rfl (by decide) (by show 3 < 5; decide) hd tb (by have e := sq_len (n := 4) (t := t) tb fun i hi => ⟨by omega, by omega⟩; omega) fun q H1 kvs1 s1 hq0 hq1 tb1 => ?_
    refine at_name (σ' := [some (.ref d), some (.int n), some (.ref q), none, none]) rfl ?_
    refine ⟨_, rfl, _, _, rfl, rfl, _, rfl, by omega, by omega, ?_⟩
    refine for_range (lo := 0) (n := ((n : Int) + 1).toNat) (fun x σ H' => ∃ (x5 : Option V) (kvs : List (List Key × V)), σ = [some (.ref d), some (.int n), some (.ref q), none, x5] ∧ L2.Same H H' ∧ H' q = some (.dT kvs) ∧ TbG (fun i : Ix => Sq n i ∨ (i.1 < x ∧ i.2 = n) ∨ (i.1 = n ∧ i.2 < x)) keyI (valI (leadT t n)) kvs) ?_ ?_ ?_
    · refine ⟨_, kvs1, rfl, s1, hq1, (tb1.congrV fun i hi => ?_).congr fun i => ?_⟩
      · show V.int _ = V.int _
        unfold leadT
        rw [if_pos hi]
      · obtain ⟨a, b⟩ := i
        show (a < n ∧ b < n) ↔ ((a < n ∧ b < n) ∨ (a < 0 ∧ b = n) ∨ (a = n ∧ b < 0))
        omega
    · rintro x σ H2 hx ⟨x5, kvs2, rfl, s2, hq2, tb2⟩
      have hxn : x ≤ n := by omega
      have v1 : leadT t n x n = if x = n then n else 0 := by
        unfold leadT
        rw [if_neg (by omega), if_pos rfl]
      have v2 : leadT t n n x = x := by
        unfold leadT
        rw [if_neg (by omega)]
        split
        · rename_i e; rw [if_pos rfl, e]
        · rfl
      have el : decide (V.int (x : Int) = V.int (n : Int)) = decide (x = n) := by
        by_cases z : x = n
        · simp [z]
        · have : ¬ (x : Int) = n := by omega
          simp [z, this]
      refine at_name (σ' := [some (.ref d), some (.int n), some (.ref q), none, some (.int (x : Int))]) (by rw [Int.zero_add]; rfl) ?_
      refine ⟨_, rfl, _, rfl, rfl, _, rfl, ?_⟩
      rw [el]
      by_cases z : x = n
      · rw [decide_eq_true z]
        rw [if_pos z] at v1
        refine iteT ⟨_, rfl, ?_⟩
        refine ⟨_, rfl, _, rfl, _, rfl, (by show 2 ≤ sizeLine; decide), fun t1 ht1 => ?_⟩
        have a1 := Same.new (H := H2) (o := .tup [V.int (x : Int), V.int (n : Int)]) ht1
        have a2 : upd H2 t1 (.tup [V.int (x : Int), V.int (n : Int)]) t1 = some (.tup ((keyI (x, n)).map kV)) := upd_same
        generalize upd H2 t1 (.tup [V.int (x : Int), V.int (n : Int)]) = G1 at a1 a2 ⊢
        have tb3 := tb2.put keyI_inj (x, n)
        rw [show valI (leadT t n) (x, n) = V.int (n : Nat) from congrArg (fun k : Nat => V.int k) v1] at tb3
        refine ⟨q, _, rfl, DPut.t (k := keyI (x, n)) (a1 _ _ hq2) a2 (tb2.few fun i hi => by omega), ?_⟩
        have b1 : upd G1 q (.dT (putK kvs2 (keyI (x, n)) (V.int (n : Nat)))) q = _ := upd_same
        have b2 : L2.Same H (upd G1 q (.dT (putK kvs2 (keyI (x, n)) (V.int (n : Nat))))) := fun b o e => by
          rw [upd_ne (ne_of_none e hq0)]
          exact a1 _ _ (s2 _ _ e)
        have b3 : upd G1 q (.dT (putK kvs2 (keyI (x, n)) (V.int (n : Int)))) = upd G1 q (.dT (putK kvs2 (keyI (x, n)) (V.int (n : Nat)))) := rfl
        rw [b3]
        generalize putK kvs2 (keyI (x, n)) (V.int (n : Nat)) = kvs3 at tb3 b1 b2 ⊢
        generalize upd G1 q (.dT kvs3) = G2 at b1 b2 ⊢
        refine ⟨_, rfl, _, rfl, _, rfl, _, rfl, (by show 2 ≤ sizeLine; decide), fun t2 ht2 => ?_⟩
        have c1 := Same.new (H := G2) (o := .tup [V.int (n : Int), V.int (x : Int)]) ht2
        have c2 : upd G2 t2 (.tup [V.int (n : Int), V.int (x : Int)]) t2 = some (.tup ((keyI (n, x)).map kV)) := upd_same
        generalize upd G2 t2 (.tup [V.int (n : Int), V.int (x : Int)]) = G3 at c1 c2 ⊢
        have tb4 := tb3.put keyI_inj (n, x)
        rw [show valI (leadT t n) (n, x) = V.int (x : Nat) from congrArg (fun k : Nat => V.int k) v2] at tb4
        refine ⟨q, _, rfl, DPut.t (k := keyI (n, x)) (c1 _ _ b1) c2 (tb3.few fun i hi => hi.elim (fun h => by omega) fun h => by rw [h]; exact ⟨by show x < 5; omega, by show n < 5; omega⟩), ?_⟩
        refine ⟨_, _, rfl, fun b o e => ?_, upd_same, tb4.congr fun i => ?_⟩
        · rw [upd_ne (ne_of_none e hq0)]
          exact c1 _ _ (b2 _ _ e)
        · obtain ⟨a, b⟩ := i
          simp only [Prod.mk.injEq]
          omega
      · rw [decide_eq_false z]
        rw [if_neg z] at v1
        refine iteF ?_
        refine ⟨_, rfl, _, rfl, _, rfl, (by show 2 ≤ sizeLine; decide), fun t1 ht1 => ?_⟩
        have a1 := Same.new (H := H2) (o := .tup [V.int (x : Int), V.int (n : Int)]) ht1
        have a2 : upd H2 t1 (.tup [V.int (x : Int), V.int (n : Int)]) t1 = some (.tup ((keyI (x, n)).map kV)) := upd_same
        generalize upd H2 t1 (.tup [V.int (x : Int), V.int (n : Int)]) = G1 at a1 a2 ⊢
        have tb3 := tb2.put keyI_inj (x, n)
        rw [show valI (leadT t n) (x, n) = V.int (0 : Nat) from congrArg (fun k : Nat => V.int k) v1] at tb3
        refine ⟨q, _, rfl, DPut.t (k := keyI (x, n)) (a1 _ _ hq2) a2 (tb2.few fun i hi => by omega), ?_⟩
        have b1 : upd G1 q (.dT (putK kvs2 (keyI (x, n)) (V.int (0 : Nat)))) q = _ := upd_same
        have b2 : L2.Same H (upd G1 q (.dT (putK kvs2 (keyI (x, n)) (V.int (0 : Nat))))) := fun b o e => by
          rw [upd_ne (ne_of_none e hq0)]
          exact a1 _ _ (s2 _ _ e)
        have b3 : upd G1 q (.dT (putK kvs2 (keyI (x, n)) (V.int (0 : Int)))) = upd G1 q (.dT (putK kvs2 (keyI (x, n)) (V.int (0 : Nat)))) := rfl
        rw [b3]
        generalize putK kvs2 (keyI (x, n)) (V.int (0 : Nat)) = kvs3 at tb3 b1 b2 ⊢
        generalize upd G1 q (.dT kvs3) = G2 at b1 b2 ⊢
        refine ⟨_, rfl, _, rfl, _, rfl, _, rfl, (by show 2 ≤ sizeLine; decide), fun t2 ht2 => ?_⟩
        have c1 := Same.new (H := G2) (o := .tup [V.int (n : Int), V.int (x : Int)]) ht2
        have c2 : upd G2 t2 (.tup [V.int (n : Int), V.int (x : Int)]) t2 = some (.tup ((keyI (n, x)).map kV)) := upd_same
        generalize upd G2 t2 (.tup [V.int (n : Int), V.int (x : Int)]) = G3 at c1 c2 ⊢
        have tb4 := tb3.put keyI_inj (n, x)
        rw [show valI (leadT t n) (n, x) = V.int (x : Nat) from congrArg (fun k : Nat => V.int k) v2] at tb4
        refine ⟨q, _, rfl, DPut.t (k := keyI (n, x)) (c1 _ _ b1) c2 (tb3.few fun i hi => hi.elim (fun h => by omega) fun h => by rw [h]; exact ⟨by show x < 5; omega, by show n < 5; omega⟩), ?_⟩
        refine ⟨_, _, rfl, fun b o e => ?_, upd_same, tb4.congr fun i => ?_⟩
        · rw [upd_ne (ne_of_none e hq0)]
          exact c1 _ _ (b2 _ _ e)
        · obtain ⟨a, b⟩ := i
          simp only [Prod.mk.injEq]
          omega
    · rintro σ H2 ⟨x5, kvs2, rfl, s2, hq2, tb2⟩
      refine ⟨_, rfl, k q H2 s2 hq0 ⟨kvs2, hq2, tb2.congr fun i => ?_⟩⟩
      obtain ⟨a, b⟩ := i
      have : ((n : Int) + 1).toNat = n + 1 := by omega
      rw [this]
      show ((a < n ∧ b < n) ∨ (a < n + 1 ∧ b = n) ∨ (a = n ∧ b < n + 1)) ↔ (a < n + 1 ∧ b < n + 1)
      omega
end
end KT
set_option Elab.async false
set_option linter.all false
set_option maxRecDepth 100000
set_option maxHeartbeats 4000000
namespace KT
open PySem L2 PyProof.Rows DTp
section
variable {P : Program} {w : World} {K : PySem.W.Frag} {mg : Str → Option Value} {base : Heap}
def spCyc : Sp := fun vs H Q _ => ∃ n lead : Nat, vs = [.int n, .int lead] ∧ 0 < n ∧ n < 5 ∧ 0 < lead ∧ lead ≤ n ∧ ∀ (q : Addr) (H' : Hp), L2.Same H H' → H q = none → TabAt H' q n (cyclicT n lead) → Q (.ref q) H'
abbrev nCyc : List Str := ["_law_many", "_law_lead", "_law_told", "_law_x", "_law_y", "_law_raised"]
theorem scCyc : FnScope nCyc ["_law_many", "_law_lead"] (defScope sCyclic) := ⟨rfl, rfl, rfl, by decide +kernel, rfl, by decide +kernel, by decide +kernel⟩
theorem ok_cyc {f : Addr} {fd : FuncData} (F : Fun K "_law_cyclic_table" "_law_cyclic_table" sCyclic f fd) (T : Blt mg) : FnOk P w K mg base CX0 1 f fd ["_law_many", "_law_lead"] spCyc := by
  refine F.ok scCyc (fun vs H Q E h => ?_) (fun cdv A outer s H vs Q E hr h => ?_)
  · obtain ⟨n, lead, rfl, _⟩ := h
    rfl
  · obtain ⟨n, lead, rfl, n0, n5, l0, ln, k⟩ := h
    have nd := scCyc.nd
    refine ⟨_, pss_cons (ps_set (i := 2) nd rfl (Or.inl rfl) pe_dnewT)
      (pss_cons (ps_for PassesOwn.never rfl (pi_range1 rfl T.range (pa_cons (pv 0) pa_nil)) (pg_name (i := 3) nd rfl (Or.inl rfl))
        (pss_one (ps_for PassesOwn.never rfl (pi_range1 rfl T.range (pa_cons (pv 0) pa_nil)) (pg_name (i := 4) nd rfl (Or.inl rfl))
          (pss_cons (ps_set (i := 5) nd rfl (Or.inl rfl) (pe_op op_add (pe_op op_add (pv 3) (pv 4)) pe_int))
          (pss_one (ps_dput (hu_of hr) (pv 2) (pe_tup (pa_cons (pv 3) (pa_cons (pv 4) pa_nil)))
            (pe_op op_sub (pe_ifExp (pt_cmpR op_le (pv 5) (pv 0) (nomark _)) (pv 5) (pe_op op_add (pv 1) (pe_op op_modN (pe_callTy call_int1 (by rfl) T.int boot_int (pa_cons (pe_op op_sub (pv 5) (pv 1)) pa_nil)) (pe_op op_add (pe_op op_sub (pv 0) (pv 1)) pe_int)))) pe_int) rfl))))))
      (pss_one (ps_ret (pv 2)))), ?_⟩
    refine fun d hd => ?_
    refine ⟨_, rfl, _, rfl, by omega, by omega, ?_⟩
    refine for_range (lo := 0) (n := (n : Int).toNat) (fun x σ H' => ∃ (x3 x4 x5 : Option V) (kvs : List (List Key × V)), σ = [some (.int n), some (.int lead), some (.ref d), x3, x4, x5] ∧ L2.Same H H' ∧ H' d = some (.dT kvs) ∧ TbG (fun i : Ix => i.1 < x ∧ i.2 < n) keyI (valI (cyclicT n lead)) kvs) ?_ ?_ ?_
    · exact ⟨_, _, _, [], rfl, Same.new hd, upd_same, TbG.nil.congr fun i => by simp⟩
    · rintro x σ H1 hx ⟨x3, x4, x5, kvs, rfl, s1, hd1, tb⟩
      refine at_name (σ' := [some (.int n), some (.int lead), some (.ref d), some (.int (x : Int)), x4, x5]) (by rw [Int.zero_add]; rfl) ?_
      refine ⟨_, rfl, _, rfl, by omega, by omega, ?_⟩
      refine for_range (lo := 0) (n := (n : Int).toNat) (fun y σ H' => ∃ (x4 x5 : Option V) (kvs : List (List Key × V)), σ = [some (.int n), some (.int lead), some (.ref d), some (.int (x : Int)), x4, x5] ∧ L2.Same H H' ∧ H' d = some (.dT kvs) ∧ TbG (fun i : Ix => (i.1 < x ∧ i.2 < n) ∨ (i.1 = x ∧ i.2 < y)) keyI (valI (cyclicT n lead)) kvs) ?_ ?_ ?_
      · exact ⟨_, _, kvs, rfl, s1, hd1, tb.row0⟩
      · rintro y σ H2 hy ⟨x4, x5, kvs, rfl, s2, hd2, tb⟩
        have hxn : x < n := by omega
        have hyn : y < n := by omega
        refine at_name (σ' := [some (.int n), some (.int lead), some (.ref d), some (.int (x : Int)), some (.int (y : Int)), x5]) (by rw [Int.zero_add]; rfl) ?_
        refine ⟨_, rfl, _, rfl, _, _, rfl, rfl, _, _, rfl, rfl, ?_⟩
        refine at_name (σ' := [some (.int n), some (.int lead), some (.ref d), some (.int (x : Int)), some (.int (y : Int)), some (.int ((x : Int) + y + 2))]) rfl ?_
        have fin : ∀ z : Int, z = (cyclicT n lead x y : Nat) → ∀ t1, H2 t1 = none → ∃ a H4, (V.ref d) = V.ref a ∧ DPut (upd H2 t1 (.tup [V.int (x : Int), V.int (y : Int)])) a (.ref t1) (.int z) H4 ∧ ∃ (x4 x5 : Option V) (kvs : List (List Key × V)), [some (V.int n), some (.int lead), some (.ref d), some (.int (x : Int)), some (.int (y : Int)), some (.int ((x : Int) + y + 2))] = [some (.int n), some (.int lead), some (.ref d), some (.int (x : Int)), x4, x5] ∧ L2.Same H H4 ∧ H4 d = some (.dT kvs) ∧ TbG (fun i : Ix => (i.1 < x ∧ i.2 < n) ∨ (i.1 = x ∧ i.2 < y + 1)) keyI (valI (cyclicT n lead)) kvs := by
          rintro z rfl t1 ht1
          have h1 := Same.new (H := H2) (o := .tup [V.int (x : Int), V.int (y : Int)]) ht1
          refine ⟨d, _, rfl, DPut.t (k := keyI (x, y)) (h1 _ _ hd2) upd_same (tb.few fun i hi => by omega), _, _, _, rfl, fun b o e => ?_, upd_same, tb.next⟩
          rw [upd_ne (ne_of_none e hd)]
          exact h1 _ _ (s2 _ _ e)
        refine ⟨_, rfl, _, rfl, _, _, rfl, rfl, _, rfl, ?_⟩
        by_cases z : x + y + 2 ≤ n
        · rw [decide_eq_true (show (x : Int) + y + 2 ≤ n by omega)]
          refine iteT ⟨_, rfl, _, _, rfl, rfl, _, rfl, _, rfl, _, rfl, (by show 2 ≤ sizeLine; decide), fun t1 ht1 => fin _ ?_ t1 ht1⟩
          unfold cyclicT
          rw [if_pos z]
          omega
        · rw [decide_eq_false (show ¬ (x : Int) + y + 2 ≤ n by omega)]
          refine iteF ⟨_, rfl, _, rfl, _, rfl, _, _, rfl, rfl, .inl ⟨_, rfl, _, rfl, _, rfl, _, _, rfl, rfl, _, _, rfl, rfl, _, _, rfl, rfl, by omega, _, _, rfl, rfl, _, _, rfl, rfl, _, rfl, _, rfl, _, rfl, (by show 2 ≤ sizeLine; decide), fun t1 ht1 => fin _ ?_ t1 ht1⟩⟩
          unfold cyclicT
          rw [if_neg z]
          have e1 : ((x : Int) + y + 2 - lead).fmod ((n : Int) - lead + 1) = (((x + y + 2 - lead) % (n - lead + 1) : Nat) : Int) := by
            have a1 : ((x : Int) + y + 2 - lead) = ((x + y + 2 - lead : Nat) : Int) := by omega
            have a2 : ((n : Int) - lead + 1) = ((n - lead + 1 : Nat) : Int) := by omega
            rw [a1, a2, Int.fmod_eq_emod_of_nonneg _ (by omega)]
            exact (Int.natCast_emod _ _).symm
          rw [e1]
          omega
      · rintro σ H2 ⟨x4, x5, kvs, rfl, s2, hd2, tb⟩
        have hn : (n : Int).toNat = n := by omega
        rw [hn] at tb
        exact ⟨_, _, _, kvs, rfl, s2, hd2, tb.row⟩
    · rintro σ H1 ⟨x3, x4, x5, kvs, rfl, s1, hd1, tb⟩
      have hn : (n : Int).toNat = n := by omega
      rw [hn] at tb
      exact ⟨_, rfl, k d H1 s1 hd ⟨kvs, hd1, tb⟩⟩
end
end KT
set_option Elab.async false
set_option linter.all false
set_option maxRecDepth 100000
set_option maxHeartbeats 4000000
namespace KT
open PySem L2 PyProof.Rows DTp
section
variable {P : Program} {w : World} {K : PySem.W.Frag} {mg : Str → Option Value} {base : Heap}
def spTwo : Sp := fun vs H Q _ => ∃ (a b : Addr) (t u : Nat → Nat → Nat), vs = [.ref a, .ref b] ∧ TabAt H a 2 t ∧ TabAt H b 2 u ∧ ∀ (q : Addr) (H' : Hp), L2.Same H H' → H q = none → TabAt H' q 4 (twofoldT t u) → Q (.ref q) H'
abbrev nTwo : List Str := ["_law_one", "_law_other", "_law_found", "_law_x", "_law_y"]
theorem scTwo : FnScope nTwo ["_law_one", "_law_other"] (defScope sTwofold) := ⟨rfl, rfl, rfl, by decide +kernel, rfl, by decide +kernel, by decide +kernel⟩
theorem ok_two {f : Addr} {fd : FuncData} (F : Fun K "_law_twofold_table" "_law_twofold_table" sTwofold f fd) (T : Blt mg) : FnOk P w K mg base CX0 1 f fd ["_law_one", "_law_other"] spTwo := by
  refine F.ok scTwo (fun vs H Q E h => ?_) (fun cdv A outer s H vs Q E hr h => ?_)
  · obtain ⟨a, b, t, u, rfl, _⟩ := h
    rfl
  · obtain ⟨a, b, t, u, rfl, ha, hb, k⟩ := h
    have nd := scTwo.nd
    refine ⟨_, pss_cons (ps_set (i := 2) nd rfl (Or.inl rfl) pe_dnewT)
      (pss_cons (ps_for PassesOwn.never rfl (pi_range1 rfl T.range (pa_cons pe_int pa_nil)) (pg_name (i := 3) nd rfl (Or.inl rfl))
        (pss_one (ps_for PassesOwn.never rfl (pi_range1 rfl T.range (pa_cons pe_int pa_nil)) (pg_name (i := 4) nd rfl (Or.inl rfl))
          (pss_one (ps_dput (hu_of hr) (pv 2) (pe_tup (pa_cons (pv 3) (pa_cons (pv 4) pa_nil)))
            (pe_op op_add (pe_op op_mul pe_int (pe_dget (hu_of hr) (pv 0) (pe_tup (pa_cons (pe_op op_fdiv (pv 3) pe_int) (pa_cons (pe_op op_fdiv (pv 4) pe_int) pa_nil))) (fun _ _ => rfl)))
              (pe_dget (hu_of hr) (pv 1) (pe_tup (pa_cons (pe_op op_mod (pe_callTy call_int1 (by rfl) T.int boot_int (pa_cons (pv 3) pa_nil)) pe_int) (pa_cons (pe_op op_mod (pe_callTy call_int1 (by rfl) T.int boot_int (pa_cons (pv 4) pa_nil)) pe_int) pa_nil))) (fun _ _ => rfl))) rfl)))))
      (pss_one (ps_ret (pv 2)))), ?_⟩
    refine fun d hd => ?_
    refine ⟨_, rfl, by decide, by decide, ?_⟩
    refine for_range (lo := 0) (n := 4) (fun x σ H' => ∃ (x3 x4 : Option V) (kvs : List (List Key × V)), σ = [some (.ref a), some (.ref b), some (.ref d), x3, x4] ∧ L2.Same H H' ∧ H' d = some (.dT kvs) ∧ TbG (fun i : Ix => i.1 < x ∧ i.2 < 4) keyI (valI (twofoldT t u)) kvs) ?_ ?_ ?_
    · exact ⟨_, _, [], rfl, Same.new hd, upd_same, TbG.nil.congr fun i => by simp⟩
    · rintro x σ H1 hx ⟨x3, x4, kvs, rfl, s1, hd1, tb⟩
      refine at_name (σ' := [some (.ref a), some (.ref b), some (.ref d), some (.int (x : Int)), x4]) (by rw [Int.zero_add]; rfl) ?_
      refine ⟨_, rfl, by decide, by decide, ?_⟩
      refine for_range (lo := 0) (n := 4) (fun y σ H' => ∃ (x4 : Option V) (kvs : List (List Key × V)), σ = [some (.ref a), some (.ref b), some (.ref d), some (.int (x : Int)), x4] ∧ L2.Same H H' ∧ H' d = some (.dT kvs) ∧ TbG (fun i : Ix => (i.1 < x ∧ i.2 < 4) ∨ (i.1 = x ∧ i.2 < y)) keyI (valI (twofoldT t u)) kvs) ?_ ?_ ?_
      · exact ⟨_, kvs, rfl, s1, hd1, tb.row0⟩
      · rintro y σ H2 hy ⟨x4, kvs, rfl, s2, hd2, tb⟩
        refine at_name (σ' := [some (.ref a), some (.ref b), some (.ref d), some (.int (x : Int)), some (.int (y : Int))]) (by rw [Int.zero_add]; rfl) ?_
        have q1 : (x : Int) / 2 = ((x / 2 : Nat) : Int) := by omega
        have q2 : (y : Int) / 2 = ((y / 2 : Nat) : Int) := by omega
        have q3 : (x : Int) % 2 = ((x % 2 : Nat) : Int) := by omega
        have q4 : (y : Int) % 2 = ((y % 2 : Nat) : Int) := by omega
        refine ⟨_, rfl, _, rfl, _, _, rfl, rfl, (by show (0 : Int) < 2 ∧ (2 : Int) < 1073741824; decide), _, rfl, _, _, rfl, rfl, (by show (0 : Int) < 2 ∧ (2 : Int) < 1073741824; decide), (by show 2 ≤ sizeLine; decide), fun t1 ht1 => ?_⟩
        have a1 := Same.new (H := H2) (o := .tup [V.int ((x : Int) / 2), V.int ((y : Int) / 2)]) ht1
        have a2 : upd H2 t1 (.tup [V.int ((x : Int) / 2), V.int ((y : Int) / 2)]) t1 = some (.tup [V.int ((x / 2 : Nat) : Int), V.int ((y / 2 : Nat) : Int)]) := by rw [upd_same, q1, q2]
        generalize upd H2 t1 (.tup [V.int ((x : Int) / 2), V.int ((y : Int) / 2)]) = G1 at a1 a2 ⊢
        refine ⟨a, _, rfl, ((ha.mono s2).mono a1).get (by omega) (by omega) a2, _, _, rfl, rfl, .inl (by decide), ?_⟩
        refine ⟨_, rfl, _, rfl, .inl ⟨_, rfl, _, _, rfl, rfl, (by show (0 : Int) < 2; decide), _, rfl, .inl ⟨_, rfl, _, _, rfl, rfl, (by show (0 : Int) < 2; decide), (by show 2 ≤ sizeLine; decide), fun t2 ht2 => ?_⟩⟩⟩
        have b1 := Same.new (H := G1) (o := .tup [V.int ((x : Int) % 2), V.int ((y : Int) % 2)]) ht2
        have b2 : upd G1 t2 (.tup [V.int ((x : Int) % 2), V.int ((y : Int) % 2)]) t2 = some (.tup [V.int ((x % 2 : Nat) : Int), V.int ((y % 2 : Nat) : Int)]) := by rw [upd_same, q3, q4]
        generalize upd G1 t2 (.tup [V.int ((x : Int) % 2), V.int ((y : Int) % 2)]) = G2 at b1 b2 ⊢
        refine ⟨b, _, rfl, (((hb.mono s2).mono a1).mono b1).get (by omega) (by omega) b2, _, _, rfl, rfl, ?_⟩
        refine ⟨_, rfl, _, rfl, _, rfl, (by show 2 ≤ sizeLine; decide), fun t3 ht3 => ?_⟩
        have c1 := Same.new (H := G2) (o := .tup [V.int (x : Int), V.int (y : Int)]) ht3
        have ev : (2 * (t (x / 2) (y / 2) : Int) + (u (x % 2) (y % 2) : Int)) = ((twofoldT t u x y : Nat) : Int) := by
          unfold twofoldT
          omega
        refine ⟨d, _, rfl, DPut.t (k := keyI (x, y)) (c1 _ _ (b1 _ _ (a1 _ _ hd2))) upd_same (tb.few fun i hi => by omega), _, _, rfl, fun z o e => ?_, upd_same, ?_⟩
        · rw [upd_ne (ne_of_none e hd)]
          exact c1 _ _ (b1 _ _ (a1 _ _ (s2 _ _ e)))
        · have tn := tb.next
          rw [show valI (twofoldT t u) (x, y) = V.int (2 * (t (x / 2) (y / 2) : Int) + (u (x % 2) (y % 2) : Int)) from congrArg V.int ev.symm] at tn
          exact tn
      · rintro σ H2 ⟨x4, kvs, rfl, s2, hd2, tb⟩
        exact ⟨_, _, kvs, rfl, s2, hd2, tb.row⟩
    · rintro σ H1 ⟨x3, x4, kvs, rfl, s1, hd1, tb⟩
      exact ⟨_, rfl, k d H1 s1 hd ⟨kvs, hd1, tb⟩⟩
def spTwin : Sp := fun vs H Q _ => ∃ (a : Addr) (n v : Nat) (t : Nat → Nat → Nat), vs = [.ref a, .int n, .int v] ∧ 0 < n ∧ n < 4 ∧ v < n ∧ TabAt H a n t ∧ ∀ (q : Addr) (H' : Hp), L2.Same H H' → H q = none → TabAt H' q (n + 1) (twinT t n v) → Q (.ref q) H'
abbrev nTwin : List Str := ["_law_told", "_law_many", "_law_twin", "_law_head", "_law_found", "_law_x", "_law_y"]
theorem scTwin : FnScope nTwin ["_law_told", "_law_many", "_law_twin"] (defScope sTwin) := ⟨rfl, rfl, rfl, by decide +kernel, rfl, by decide +kernel, by decide +kernel⟩
theorem ok_twin {f : Addr} {fd : FuncData} (F : Fun K "_law_twin_table" "_law_twin_table" sTwin f fd) (T : Blt mg) (hl : mg "list" = none) : FnOk P w K mg base CX0 1 f fd ["_law_told", "_law_many", "_law_twin"] spTwin := by
  refine F.ok scTwin (fun vs H Q E h => ?_) (fun cdv A outer s H vs Q E hr h => ?_)
  · obtain ⟨a, n, v, t, rfl, _⟩ := h
    rfl
  · obtain ⟨a, n, v, t, rfl, n0, n4, hv, ha, k⟩ := h
    have nd := scTwin.nd
    refine ⟨_, pss_cons (ps_set (i := 3) nd rfl (Or.inl rfl) (pe_op op_cat (pe_listRg rfl (by rfl) hl (prg_1 (by rfl) T.range (pv 1))) (pe_lst (pa_cons (pv 2) pa_nil))))
      (pss_cons (ps_set (i := 4) nd rfl (Or.inl rfl) pe_dnewT)
      (pss_cons (ps_for PassesOwn.never rfl (pi_range1 rfl T.range (pa_cons (pe_op op_add (pv 1) pe_int) pa_nil)) (pg_name (i := 5) nd rfl (Or.inl rfl))
        (pss_one (ps_for PassesOwn.never rfl (pi_range1 rfl T.range (pa_cons (pe_op op_add (pv 1) pe_int) pa_nil)) (pg_name (i := 6) nd rfl (Or.inl rfl))
          (pss_one (ps_dput (hu_of hr) (pv 4) (pe_tup (pa_cons (pv 5) (pa_cons (pv 6) pa_nil)))
            (pe_dget (hu_of hr) (pv 0) (pe_tup (pa_cons (pe_ix ix_list (pv 3) (pv 5) (fun _ _ => rfl)) (pa_cons (pe_ix ix_list (pv 3) (pv 6) (fun _ _ => rfl)) pa_nil))) (fun _ _ => rfl)) rfl)))))
      (pss_one (ps_ret (pv 4))))), ?_⟩
    refine ⟨_, rfl, _, rfl, ⟨by decide, by decide, by omega, by omega, by omega⟩, fun q1 hq1 => ?_⟩
    have a1 := Same.new (H := H) (o := .lst (rgV 0 n)) hq1
    have a2 : upd H q1 (.lst (rgV 0 n)) q1 = _ := upd_same
    generalize upd H q1 (.lst (rgV 0 n)) = G1 at a1 a2 ⊢
    refine ⟨_, rfl, (by show 1 ≤ sizeLine; decide), fun q2 hq2 => ?_⟩
    have b1 := Same.new (H := G1) (o := .lst [V.int (v : Int)]) hq2
    have b2 : upd G1 q2 (.lst [V.int (v : Int)]) q2 = _ := upd_same
    generalize upd G1 q2 (.lst [V.int (v : Int)]) = G2 at b1 b2 ⊢
    have hlen : (rgV 0 n).length = n := by
      unfold rgV
      rw [List.length_map, List.length_range]
      omega
    refine ⟨q1, q2, _, _, rfl, rfl, b1 _ _ a2, b2, (by rw [hlen]; show n + 1 ≤ sizeLine; rw [sizeLine_eq]; omega), fun q3 hq3 => ?_⟩
    have c1 := Same.new (H := G2) (o := .lst (rgV 0 n ++ [V.int (v : Int)])) hq3
    have c2 : upd G2 q3 (.lst (rgV 0 n ++ [V.int (v : Int)])) q3 = _ := upd_same
    generalize upd G2 q3 (.lst (rgV 0 n ++ [V.int (v : Int)])) = G3 at c1 c2 ⊢
    have hh : ∀ x : Nat, x < n + 1 → (rgV 0 (n : Int) ++ [V.int (v : Int)])[x]? = some (.int ((if x < n then x else v : Nat) : Int)) := by
      intro x hx
      by_cases z : x < n
      · rw [List.getElem?_append_left (by rw [hlen]; exact z), if_pos z]
        unfold rgV
        have e0 : ((n : Int) - 0).toNat = n := by omega
        rw [e0, List.getElem?_map, List.getElem?_range z]
        show some (V.int (0 + (x : Int))) = _
        rw [Int.zero_add]
      · have e1 : x = n := by omega
        subst e1
        rw [List.getElem?_append_right (by rw [hlen]; omega), hlen, if_neg z, Nat.sub_self]
        rfl
    have hs : L2.Same H G3 := fun z o e => c1 _ _ (b1 _ _ (a1 _ _ e))
    refine at_name (σ' := [some (.ref a), some (.int n), some (.int v), some (.ref q3), none, none, none]) rfl ?_
    refine fun d hd => ?_
    have d1 := Same.new (H := G3) (o := .dT []) hd
    have hd0 : H d = none := by
      cases e : H d with
      | none => rfl
      | some o => rw [hs _ _ e] at hd; cases hd
    refine at_name (σ' := [some (.ref a), some (.int n), some (.int v), some (.ref q3), some (.ref d), none, none]) rfl ?_
    have hq3d : upd G3 d (.dT []) q3 = some (.lst (rgV 0 n ++ [V.int (v : Int)])) := d1 _ _ c2
    have d2 : upd G3 d (.dT []) d = some (.dT []) := upd_same
    have hs0 : L2.Same H (upd G3 d (.dT [])) := fun z o e => d1 _ _ (hs _ _ e)
    generalize upd G3 d (.dT []) = G4 at d2 hq3d hs0 ⊢
    refine ⟨_, rfl, _, _, rfl, rfl, _, rfl, by omega, by omega, ?_⟩
    refine for_range (lo := 0) (n := ((n : Int) + 1).toNat) (fun x σ H' => ∃ (x5 x6 : Option V) (kvs : List (List Key × V)), σ = [some (.ref a), some (.int n), some (.int v), some (.ref q3), some (.ref d), x5, x6] ∧ L2.Same H H' ∧ H' q3 = some (.lst (rgV 0 n ++ [V.int (v : Int)])) ∧ H' d = some (.dT kvs) ∧ TbG (fun i : Ix => i.1 < x ∧ i.2 < n + 1) keyI (valI (twinT t n v)) kvs) ?_ ?_ ?_
    · exact ⟨_, _, [], rfl, hs0, hq3d, d2, TbG.nil.congr fun i => by simp⟩
    · rintro x σ H1 hx ⟨x5, x6, kvs, rfl, s1, hq1, hd1, tb⟩
      refine at_name (σ' := [some (.ref a), some (.int n), some (.int v), some (.ref q3), some (.ref d), some (.int (x : Int)), x6]) (by rw [Int.zero_add]; rfl) ?_
      refine ⟨_, rfl, _, _, rfl, rfl, _, rfl, by omega, by omega, ?_⟩
      refine for_range (lo := 0) (n := ((n : Int) + 1).toNat) (fun y σ H' => ∃ (x6 : Option V) (kvs : List (List Key × V)), σ = [some (.ref a), some (.int n), some (.int v), some (.ref q3), some (.ref d), some (.int (x : Int)), x6] ∧ L2.Same H H' ∧ H' q3 = some (.lst (rgV 0 n ++ [V.int (v : Int)])) ∧ H' d = some (.dT kvs) ∧ TbG (fun i : Ix => (i.1 < x ∧ i.2 < n + 1) ∨ (i.1 = x ∧ i.2 < y)) keyI (valI (twinT t n v)) kvs) ?_ ?_ ?_
      · exact ⟨_, kvs, rfl, s1, hq1, hd1, tb.row0⟩
      · rintro y σ H2 hy ⟨x6, kvs, rfl, s2, hq2, hd2, tb⟩
        refine at_name (σ' := [some (.ref a), some (.int n), some (.int v), some (.ref q3), some (.ref d), some (.int (x : Int)), some (.int (y : Int))]) (by rw [Int.zero_add]; rfl) ?_
        have hx' : x < n + 1 := by omega
        have hy' : y < n + 1 := by omega
        refine ⟨_, rfl, _, rfl, _, rfl, q3, _, (x : Int), _, rfl, rfl, SqL.of hq2, atI_nat (hh x hx'), _, rfl, _, rfl, q3, _, (y : Int), _, rfl, rfl, SqL.of hq2, atI_nat (hh y hy'), (by show 2 ≤ sizeLine; decide), fun t1 ht1 => ?_⟩
        have e1 := Same.new (H := H2) (o := .tup [V.int ((if x < n then x else v : Nat) : Int), V.int ((if y < n then y else v : Nat) : Int)]) ht1
        have e2 : upd H2 t1 (.tup [V.int ((if x < n then x else v : Nat) : Int), V.int ((if y < n then y else v : Nat) : Int)]) t1 = _ := upd_same
        generalize upd H2 t1 (.tup [V.int ((if x < n then x else v : Nat) : Int), V.int ((if y < n then y else v : Nat) : Int)]) = G5 at e1 e2 ⊢
        refine ⟨a, _, rfl, ((ha.mono s2).mono e1).get (by split <;> omega) (by split <;> omega) e2, _, rfl, _, rfl, _, rfl, (by show 2 ≤ sizeLine; decide), fun t3 ht3 => ?_⟩
        have f1 := Same.new (H := G5) (o := .tup [V.int (x : Int), V.int (y : Int)]) ht3
        refine ⟨d, _, rfl, DPut.t (k := keyI (x, y)) (f1 _ _ (e1 _ _ hd2)) upd_same (tb.few fun i hi => by omega), _, _, rfl, fun z o e => ?_, ?_, upd_same, tb.next⟩
        · rw [upd_ne (ne_of_none e hd0)]
          exact f1 _ _ (e1 _ _ (s2 _ _ e))
        · rw [upd_ne (ne_of_none c2 hd)]
          exact f1 _ _ (e1 _ _ hq2)
      · rintro σ H2 ⟨x6, kvs, rfl, s2, hq2, hd2, tb⟩
        have hn : ((n : Int) + 1).toNat = n + 1 := by omega
        rw [hn] at tb
        exact ⟨_, _, kvs, rfl, s2, hq2, hd2, tb.row⟩
    · rintro σ H1 ⟨x5, x6, kvs, rfl, s1, hq1, hd1, tb⟩
      have hn : ((n : Int) + 1).toNat = n + 1 := by omega
      rw [hn] at tb
      exact ⟨_, rfl, k d H1 s1 hd0 ⟨kvs, hd1, tb⟩⟩
end
end KT
set_option Elab.async false
set_option linter.all false
set_option maxRecDepth 100000
set_option maxHeartbeats 4000000
namespace KT
open PySem L2 PyProof.Rows DTp
section
variable {P : Program} {w : World} {K : PySem.W.Frag} {mg : Str → Option Value} {base : Heap}
/-- a table that may be read, locked or not -/
def TabRd (H : Hp) (a : Addr) (n : Nat) (t : Nat → Nat → Nat) : Prop := ∃ kvs, Rd H a (.dT kvs) ∧ TbG (Sq n) keyI (valI t) kvs
theorem TabRd.mono {H H' : Hp} {a : Addr} {n : Nat} {t : Nat → Nat → Nat} (s : L2.Same H H') (h : TabRd H a n t) : TabRd H' a n t := by
  obtain ⟨kvs, h1, h2⟩ := h
  rcases h1 with e | ⟨od, e⟩
  · exact ⟨kvs, .inl (s _ _ e), h2⟩
  · exact ⟨kvs, .inr ⟨od, s _ _ e⟩, h2⟩
theorem TabRd.get {H : Hp} {a b : Addr} {n x y : Nat} {t : Nat → Nat → Nat} (h : TabRd H a n t) (hx : x < n) (hy : y < n) (hb : H b = some (.tup [V.int (x : Int), V.int (y : Int)])) : DGet H a (.ref b) (some (.int (t x y))) := by
  obtain ⟨kvs, h1, h2⟩ := h
  have e : DGet H a (.ref b) (valV kvs (keyI (x, y))) := .inr ⟨kvs, keyI (x, y), b, h1, rfl, hb, rfl⟩
  rw [h2.get (i := (x, y)) ⟨hx, hy⟩] at e
  exact e
theorem But.back {p q : Addr} {H H1 : Hp} {o : HO} (a : But p H H1) (hq : H q = none) : But p H (L2.upd H1 q o) := a.fresh hq
def spAnyT : Sp := fun vs H Q _ => ∃ (p : Addr) (n : Nat) (B : Int), vs = [.ref p, .int n] ∧ PurseAt H p B ∧ 0 ≤ B ∧ B ≤ 990000 ∧ 0 < n ∧ n < 5 ∧ ∀ (q : Addr) (t : Nat → Nat → Nat) (H' : Hp), H q = none → But p H H' → PurseAt H' p (B + 100) → TabAt H' q n t → Free n t → Q (.ref q) H'
abbrev nAnyT : List Str := ["_law_purse_here", "_law_many", "_law_told", "_law_x", "_law_y", "_law_z"]
theorem scAnyT : FnScope nAnyT ["_law_purse_here", "_law_many"] (defScope sAny) := ⟨rfl, rfl, rfl, by decide +kernel, rfl, by decide +kernel, by decide +kernel⟩
theorem ok_anyT {f : Addr} {fd : FuncData} (F : Fun K "_law_any_table" "_law_any_table" sAny f fd) (T : Blt mg) (ha : mg "any" = none) (D : DrawC P w K mg base) (Cy : Cee P w K mg base 1 "_law_cyclic_table" ["_law_many", "_law_lead"] spCyc) : FnOk P w K mg base CX0 3 f fd ["_law_purse_here", "_law_many"] spAnyT := by
  refine F.ok scAnyT (fun vs H Q E h => ?_) (fun cdv A outer s H vs Q E hr h => ?_)
  · obtain ⟨p, n, B, rfl, _⟩ := h
    rfl
  · obtain ⟨p, n, B, rfl, hP, B0, B1, n0, n5, k⟩ := h
    have nd := scAnyT.nd
    refine ⟨_, pss_cons (ps_set (i := 2) nd rfl (Or.inr rfl) pe_dnewT)
      (pss_cons (ps_for PassesOwn.never rfl (pi_range1 rfl T.range (pa_cons (pv 1) pa_nil)) (pg_name (i := 3) nd rfl (Or.inr rfl))
        (pss_one (ps_for PassesOwn.never rfl (pi_range1 rfl T.range (pa_cons (pv 1) pa_nil)) (pg_name (i := 4) nd rfl (Or.inr rfl))
          (pss_one (ps_dput (hu_of hr) (pv 2) (pe_tup (pa_cons (pv 3) (pa_cons (pv 4) pa_nil))) (pe_c D hr rfl (pa_cons (pv 0) (pa_cons (pv 1) pa_nil))) rfl)))))
      (pss_cons (ps_lock (ps_for PassesOwn.never rfl (pi_keys (pv 2)) (pg_tup rfl (pgs_cons (pg_name (i := 3) nd rfl (Or.inr rfl)) (pgs_cons (pg_name (i := 4) nd rfl (Or.inr rfl)) pgs_nil)))
        (pss_one (ps_if (pt_val (pe_callB (cr_any rfl) (by rfl) ha (by decide +kernel) (pa_cons
            (pe_lc (own := [("_law_z", 5)]) (g := gName 5) (tt := tYes)
              (te := tOp rNe (tDGet (tVar 2) (tTup (tCons (tDGet (tVar 2) (tTup (tCons (tVar 3) (tCons (tVar 4) tNil)))) (tCons (tVar 5) tNil)))) (tDGet (tVar 2) (tTup (tCons (tVar 3) (tCons (tDGet (tVar 2) (tTup (tCons (tVar 4) (tCons (tVar 5) tNil)))) tNil)))))
              rfl nd (pi_range1 rfl T.range (pa_cons (pv 1) pa_nil)) (blkOk_by (own := [("_law_z", 5)]) (N := nAnyT) (sc := defScope sAny) (by decide +kernel))
              (fun _ _ _ _ _ => pg_name (i := 5) nd rfl (Or.inl rfl)) (fun _ _ _ _ _ => pts_nil)
              (fun _ _ _ _ _ => pe_cmpR op_ne (pe_dget (hu_of hr) (pv 2) (pe_tup (pa_cons (pe_dget (hu_of hr) (pv 2) (pe_tup (pa_cons (pv 3) (pa_cons (pv 4) pa_nil))) (fun _ _ => rfl)) (pa_cons (pv 5) pa_nil))) (fun _ _ => rfl))
                (pe_dget (hu_of hr) (pv 2) (pe_tup (pa_cons (pv 3) (pa_cons (pe_dget (hu_of hr) (pv 2) (pe_tup (pa_cons (pv 4) (pa_cons (pv 5) pa_nil))) (fun _ _ => rfl)) pa_nil))) (fun _ _ => rfl)) (nomark _))) pa_nil)))
          (pss_one (ps_ret (pe_c Cy hr rfl (pa_cons (pv 1) (pa_cons (pe_op op_add pe_int (pe_c D hr rfl (pa_cons (pv 0) (pa_cons (pv 1) pa_nil)))) pa_nil))))) pss_nil))))
      (pss_one (ps_ret (pv 2))))), ?_⟩
    refine fun d hd => ?_
    have npd : p ≠ d := hP.ne hd
    refine ⟨_, rfl, _, rfl, by omega, by omega, ?_⟩
    refine for_range (lo := 0) (n := (n : Int).toNat) (fun x σ H' => ∃ (x3 x4 : Option V) (kvs : List (List Key × V)) (t : Nat → Nat → Nat), σ = [some (.ref p), some (.int n), some (.ref d), x3, x4, none] ∧ But p H H' ∧ PurseAt H' p (B + 20 * x) ∧ H' d = some (.dT kvs) ∧ TbG (fun i : Ix => i.1 < x ∧ i.2 < n) keyI (valI t) kvs ∧ ∀ i j, t i j < n) ?_ ?_ ?_
    · exact ⟨_, _, [], fun _ _ => 0, rfl, (But.refl p H).new hd, (hP.upd npd).le (by omega), upd_same, TbG.nil.congr fun i => by simp, fun _ _ => n0⟩
    · rintro x σ H1 hx ⟨x3, x4, kvs, t, rfl, bt1, hP1, hd1, tb, tn⟩
      refine at_name (σ' := [some (.ref p), some (.int n), some (.ref d), some (.int (x : Int)), x4, none]) (by rw [Int.zero_add]; rfl) ?_
      refine ⟨_, rfl, _, rfl, by omega, by omega, ?_⟩
      refine for_range (lo := 0) (n := (n : Int).toNat) (fun y σ H' => ∃ (x4 : Option V) (kvs : List (List Key × V)) (t : Nat → Nat → Nat), σ = [some (.ref p), some (.int n), some (.ref d), some (.int (x : Int)), x4, none] ∧ But p H H' ∧ PurseAt H' p (B + 20 * x + 4 * y) ∧ H' d = some (.dT kvs) ∧ TbG (fun i : Ix => (i.1 < x ∧ i.2 < n) ∨ (i.1 = x ∧ i.2 < y)) keyI (valI t) kvs ∧ ∀ i j, t i j < n) ?_ ?_ ?_
      · exact ⟨_, kvs, t, rfl, bt1, hP1.le (by omega), hd1, tb.row0, tn⟩
      · rintro y σ H2 hy ⟨x4, kvs, t, rfl, bt2, hP2, hd2, tb, tn⟩
        refine at_name (σ' := [some (.ref p), some (.int n), some (.ref d), some (.int (x : Int)), some (.int (y : Int)), none]) (by rw [Int.zero_add]; rfl) ?_
        refine ⟨_, rfl, _, rfl, p, n, _, rfl, hP2, by omega, by omega, by omega, by omega, fun r H3 bt3 hP3 r0 r1 => ?_⟩
        obtain ⟨j, rfl⟩ := nat_of (m := 0) r0
        have hd3 : H3 d = some (.dT kvs) := bt3 d _ npd.symm hd2
        refine ⟨_, rfl, _, rfl, _, rfl, (by show 2 ≤ sizeLine; decide), fun t1 ht1 => ?_⟩
        have e1 := Same.new (H := H3) (o := .tup [V.int (x : Int), V.int (y : Int)]) ht1
        have tb2 : TbG (fun i : Ix => (i.1 < x ∧ i.2 < n) ∨ (i.1 = x ∧ i.2 < y)) keyI (valI fun a b => if a = x ∧ b = y then j else t a b) kvs := tb.congrV fun i hi => by
          obtain ⟨a, b⟩ := i
          show V.int ((t a b : Nat) : Int) = V.int ((if a = x ∧ b = y then j else t a b : Nat) : Int)
          rw [if_neg]
          rintro ⟨rfl, rfl⟩
          simp at hi
        have tb3 := tb2.next
        rw [show valI (fun a b => if a = x ∧ b = y then j else t a b) (x, y) = V.int (j : Int) from congrArg (fun z : Nat => V.int (z : Int)) (if_pos ⟨rfl, rfl⟩)] at tb3
        refine ⟨d, _, rfl, DPut.t (k := keyI (x, y)) (e1 _ _ hd3) upd_same (tb.few fun i hi => by omega), _, _, _, rfl, ?_, ?_, upd_same, tb3, fun a b => ?_⟩
        · exact (((bt2.trans bt3).new ht1)).fresh hd
        · exact ((hP3.upd (hP3.ne ht1)).upd npd).le (by omega)
        · split
          · omega
          · exact tn a b
      · rintro σ H2 ⟨x4, kvs, t, rfl, bt2, hP2, hd2, tb, tn⟩
        have hn : (n : Int).toNat = n := by omega
        rw [hn] at tb
        exact ⟨_, _, kvs, t, rfl, bt2, hP2.le (by omega), hd2, tb.row, tn⟩
    · rintro σ H1 ⟨x3, x4, kvs, t, rfl, bt1, hP1, hd1, tb, tn⟩
      have hn : (n : Int).toNat = n := by omega
      rw [hn] at tb
      have tbS : TbG (Sq n) keyI (valI t) kvs := tb
      obtain ⟨is, e1, ndi, e2⟩ := tbS.idxs keyI_inj
      have li : is.length = kvs.length := by rw [e1, List.length_map]
      refine ⟨d, .dT kvs, hd1, trivial, fun od => ?_⟩
      have G0 : ∃ G, G = upd H1 d (.frz od (.dT kvs)) := ⟨_, rfl⟩
      obtain ⟨G, eG⟩ := G0
      have hG : G d = some (.frz od (.dT kvs)) := by rw [eG, upd_same]
      have btG : But p H G := by rw [eG]; exact bt1.fresh hd
      have hPG : PurseAt G p (B + 80) := by rw [eG]; exact (hP1.upd npd).le (by omega)
      have tG : TabRd G d n t := ⟨kvs, .inr ⟨od, hG⟩, tbS⟩
      rw [← eG]
      clear eG
      refine ⟨_, rfl, d, od, rfl, .inr ⟨kvs, hG, ?_⟩⟩
      refine for_it walk_keysT (fun i σ H' => ∃ x3 x4 : Option V, σ = [some (.ref p), some (.int n), some (.ref d), x3, x4, none] ∧ L2.Same G H' ∧ ∀ a ∈ is.take i, ∀ z, z < n → t (t a.1 a.2) z = t a.1 (t a.2 z)) ?_ ?_ ?_ ?_
      · exact ⟨_, _, rfl, fun _ _ e => e, fun a ha => by rw [List.take_zero] at ha; cases ha⟩
      · rintro i σ H2 hi ⟨x3, x4, rfl, s2, _⟩
        exact s2 _ _ hG
      · rintro i v σ H0 H2 hi ⟨x3, x4, rfl, s2, hall⟩ ⟨rfl, kk, vv, q, hk, rfl, hq⟩
        have hi' : i < is.length := by omega
        have ej : is[i]? = some is[i] := List.getElem?_eq_getElem hi'
        have ek : kvs[i]? = some (keyI is[i], valI t is[i]) := by
          have e3 := congrArg (fun l : List (List Key × V) => l[i]?) e1
          simp only [List.getElem?_map, ej] at e3
          exact e3
        rw [hk] at ek
        have ek := Option.some.inj ek
        have hxy : Sq n is[i] := (e2 _).mpr (List.getElem_mem hi')
        obtain ⟨⟨x, y⟩, exy⟩ : ∃ a, a = is[i] := ⟨_, rfl⟩
        rw [← exy] at ek hxy ej
        obtain ⟨rfl, rfl⟩ : kk = keyI (x, y) ∧ vv = valI t (x, y) := ⟨congrArg Prod.fst ek, congrArg Prod.snd ek⟩
        obtain ⟨hx, hy⟩ : x < n ∧ y < n := hxy
        have hq' : H2 q = some (.tup [V.int (x : Int), V.int (y : Int)]) := hq
        refine ⟨q, _, rfl, SqT.of hq', rfl, _, _, rfl, ?_⟩
        refine at_name (σ' := [some (.ref p), some (.int n), some (.ref d), some (.int (x : Int)), x4, none]) rfl ?_
        refine ⟨_, _, rfl, ?_⟩
        refine at_name (σ' := [some (.ref p), some (.int n), some (.ref d), some (.int (x : Int)), some (.int (y : Int)), none]) rfl ?_
        refine ⟨rfl, ?_⟩
        refine ⟨_, rfl, _, rfl, by omega, by omega, fun L hL => ?_⟩
        refine lc_range (lo := 0) (n := (n : Int).toNat) (fun z H' => L2.Same G H' ∧ H' L = some (.lst ((List.map (fun z : Nat => !decide (V.int (t (t x y) z : Nat) = V.int (t x (t y z) : Nat))) (List.range z)).map V.bl))) ?_ ?_ ?_
        · exact ⟨fun b o e => by rw [upd_ne (ne_of_none (s2 _ _ e) hL)]; exact s2 _ _ e, upd_same⟩
        · rintro z H3 hz ⟨s3, hL3⟩
          have hxn : t x y < n := tn _ _
          have hzn : z < n := by omega
          refine ⟨rfl, yes_if ?_⟩
          refine ⟨_, rfl, _, rfl, _, rfl, _, rfl, (by show 2 ≤ sizeLine; decide), fun t1 ht1 => ?_⟩
          have a1 := Same.new (H := H3) (o := .tup [V.int (x : Int), V.int (y : Int)]) ht1
          have a2 : upd H3 t1 (.tup [V.int (x : Int), V.int (y : Int)]) t1 = _ := upd_same
          generalize upd H3 t1 (.tup [V.int (x : Int), V.int (y : Int)]) = G1 at a1 a2 ⊢
          refine ⟨d, _, rfl, ((tG.mono s3).mono a1).get hx hy a2, _, rfl, (by show 2 ≤ sizeLine; decide), fun t2 ht2 => ?_⟩
          rw [Int.zero_add]
          have b1 := Same.new (H := G1) (o := .tup [V.int (t x y : Nat), V.int (z : Int)]) ht2
          have b2 : upd G1 t2 (.tup [V.int (t x y : Nat), V.int (z : Int)]) t2 = _ := upd_same
          generalize upd G1 t2 (.tup [V.int (t x y : Nat), V.int (z : Int)]) = G2 at b1 b2 ⊢
          refine ⟨d, _, rfl, (((tG.mono s3).mono a1).mono b1).get hxn hzn b2, ?_⟩
          refine ⟨_, rfl, _, rfl, _, rfl, _, rfl, _, rfl, (by show 2 ≤ sizeLine; decide), fun t3 ht3 => ?_⟩
          have c1 := Same.new (H := G2) (o := .tup [V.int (y : Int), V.int (z : Int)]) ht3
          have c2 : upd G2 t3 (.tup [V.int (y : Int), V.int (z : Int)]) t3 = _ := upd_same
          generalize upd G2 t3 (.tup [V.int (y : Int), V.int (z : Int)]) = G3 at c1 c2 ⊢
          refine ⟨d, _, rfl, ((((tG.mono s3).mono a1).mono b1).mono c1).get hy hzn c2, (by show 2 ≤ sizeLine; decide), fun t4 ht4 => ?_⟩
          have d1 := Same.new (H := G3) (o := .tup [V.int (x : Int), V.int (t y z : Nat)]) ht4
          have d2 : upd G3 t4 (.tup [V.int (x : Int), V.int (t y z : Nat)]) t4 = _ := upd_same
          generalize upd G3 t4 (.tup [V.int (x : Int), V.int (t y z : Nat)]) = G4 at d1 d2 ⊢
          have al : ∀ b o, H3 b = some o → G4 b = some o := fun b o e => d1 _ _ (c1 _ _ (b1 _ _ (a1 _ _ e)))
          refine ⟨d, _, rfl, (((((tG.mono s3).mono a1).mono b1).mono c1).mono d1).get hx (tn _ _) d2, rfl, ?_⟩
          refine ⟨_, al _ _ hL3, ?_, ?_, ?_⟩
          · rw [List.length_map, List.length_map, List.length_range]
            exact small1000 (by omega)
          · intro b o e
            rw [upd_ne (ne_of_none (s2 _ _ e) hL)]
            exact al _ _ (s3 _ _ e)
          · rw [upd_same, List.range_succ, List.map_append, List.map_append]
            rfl
        · rintro H3 ⟨s3, hL3⟩
          have hn : (n : Int).toNat = n := by omega
          rw [hn] at hL3
          refine ⟨L, _, rfl, SqL.of hL3, _, rfl, ?_⟩
          refine ite2 (fun hany => ?_) (fun hany => ?_)
          · refine ⟨_, rfl, _, rfl, _, rfl, p, n, B + 80, rfl, hPG.mono s3, by omega, by omega, by omega, by omega, fun r H4 bt4 hP4 r0 r1 => ?_⟩
            obtain ⟨j, rfl⟩ := nat_of (m := 0) r0
            refine ⟨_, _, rfl, rfl, ?_⟩
            refine ⟨n, 1 + j, rfl, n0, n5, by omega, by omega, fun q H5 s5 hq5 tq => ?_⟩
            have hd5 : H5 d = some (.frz od (.dT kvs)) := s5 _ _ (bt4 d _ npd.symm (s3 _ _ hG))
            have hd4 : H4 d = some (.frz od (.dT kvs)) := bt4 d _ npd.symm (s3 _ _ hG)
            have nqd : q ≠ d := fun e => by rw [e, hd4] at hq5; cases hq5
            refine ⟨hd5, ?_⟩
            have bt5 : But p H H5 := ((btG.same s3).trans bt4).same s5
            have hq0 : H q = none := ((btG.same s3).trans bt4).free hP4 hq5
            refine k q _ _ hq0 (bt5.fresh hd) (((hP4.mono s5).upd npd).le (by omega)) ?_ (free_of (cyclic_free n n5 n0 (1 + j) (by omega) (by omega)))
            obtain ⟨kv2, f1, f2⟩ := tq
            exact ⟨kv2, by rw [upd_ne nqd]; exact f1, f2⟩
          · refine ⟨_, _, rfl, fun b o e => s3 _ _ e, fun a ha z hz => ?_⟩
            rw [take_next' ej] at ha
            rcases List.mem_append.mp ha with ha | ha
            · exact hall a ha z hz
            · rw [List.mem_singleton.mp ha]
              refine Classical.byContradiction fun ne => hany ?_
              refine List.any_eq_true.mpr ⟨true, List.mem_map.mpr ⟨z, List.mem_range.mpr hz, ?_⟩, rfl⟩
              show (!decide (V.int (t (t x y) z : Nat) = V.int (t x (t y z) : Nat))) = true
              rw [decide_eq_false]
              · rfl
              · intro e
                have e5 : ((t (t x y) z : Nat) : Int) = ((t x (t y z) : Nat) : Int) := by injection e
                exact ne (by show t (t x y) z = t x (t y z); omega)
      · rintro σ H2 ⟨x3, x4, rfl, s2, hall⟩
        refine ⟨s2 _ _ hG, ?_⟩
        rw [← li, List.take_length] at hall
        refine ⟨_, rfl, k d t _ hd ((btG.same s2).fresh hd) (((hPG.mono s2).upd npd).le (by omega)) ⟨kvs, upd_same, tbS⟩ ⟨fun x y hx hy => tn x y, fun x y z hx hy hz => hall (x, y) ((e2 (x, y)).mp ⟨hx, hy⟩) z hz⟩⟩
end
end KT
set_option Elab.async false
set_option linter.all false
set_option maxRecDepth 100000
set_option maxHeartbeats 4000000
namespace KT
open PySem L2 PyProof.Rows DTp
abbrev Asc (ws : List Str) : Prop := ws.Pairwise ltT
theorem ltT_asym {x y : Str} (a : ltT x y) : ¬ ltT y x := fun b => ltT_irr x (ltT_trans a b)
theorem Asc.nodup {ws : List Str} (h : Asc ws) : ws.Nodup := List.Pairwise.imp (S := fun a b => a ≠ b) (fun {a b} (q : ltT a b) (e : a = b) => ltT_irr a (by subst e; exact q)) h
theorem Asc.eq {xs ys : List Str} (h : Asc xs) (k : Asc ys) (p : xs.Perm ys) : xs = ys := List.Perm.eq_of_pairwise (le := ltT) (fun a b _ _ q r => absurd r (ltT_asym q)) h k p
theorem risingS_asc : ∀ (ws : List Str) (x : Str), risingS x ws = true → (x :: ws).Nodup → Asc (x :: ws)
  | [], x, _, _ => List.pairwise_singleton _ _
  | y :: ws, x, h, nd => by
    have h' : (!PySem.Spec.ltCps y.cps.toList x.cps.toList && risingS y ws) = true := h
    rw [Bool.and_eq_true, Bool.not_eq_true'] at h'
    obtain ⟨h1, h2⟩ := h'
    have nd' := List.nodup_cons.mp nd
    have ih := risingS_asc ws y h2 nd'.2
    have xy : ltT x y := by
      rcases ltT_tri x y with z | z | z
      · exact z
      · subst z; exact absurd List.mem_cons_self nd'.1
      · rw [ltCps_eq, decide_eq_true z] at h1; cases h1
    refine List.pairwise_cons.mpr ⟨fun z hz => ?_, ih⟩
    rcases List.mem_cons.mp hz with rfl | hz
    · exact xy
    · exact ltT_trans xy ((List.pairwise_cons.mp ih).1 z hz)
theorem sortedS_asc {ws : List Str} (h : sortedS ws = true) (nd : ws.Nodup) : Asc ws := by
  cases ws with
  | nil => exact .nil
  | cons x ws => exact risingS_asc ws x h nd
/-- the words of a list, ascending -/
def ascOf (W : List Str) : List Str := W.mergeSort fun x y => decide (¬ ltT y x)
theorem ascOf_perm (W : List Str) : (ascOf W).Perm W := List.mergeSort_perm _ _
theorem ascOf_asc {W : List Str} (nd : W.Nodup) : Asc (ascOf W) := by
  have h := List.pairwise_mergeSort (le := fun x y : Str => decide (¬ ltT y x)) (fun a b c h1 h2 => ?_) (fun a b => ?_) W
  · have n : (ascOf W).Nodup := (ascOf_perm W).symm.nodup_iff.mp nd |> fun z => by exact z
    refine List.Pairwise.imp ?_ (List.Pairwise.and h n)
    rintro a b ⟨q, ne⟩
    have q' := of_decide_eq_true q
    rcases ltT_tri a b with z | z | z
    · exact z
    · exact absurd z ne
    · exact absurd z q'
  · have h1 := of_decide_eq_true h1
    have h2 := of_decide_eq_true h2
    refine decide_eq_true fun h => ?_
    rcases ltT_tri b c with z | z | z
    · exact h1 (ltT_trans z h)
    · exact h1 (z ▸ h)
    · exact h2 z
  · rcases ltT_tri a b with z | z | z
    · simp [ltT_asym z]
    · subst z; simp [ltT_irr]
    · simp [ltT_asym z]
def pairsW (ws : List Str) : List (Str × Str) := ws.flatMap fun x => ws.map fun y => (x, y)
theorem mem_pairsW {ws : List Str} {p : Str × Str} : p ∈ pairsW ws ↔ p.1 ∈ ws ∧ p.2 ∈ ws := by
  obtain ⟨a, b⟩ := p
  simp [pairsW, List.mem_flatMap]
theorem leP_anti {p q : Str × Str} (a : leP p q) (b : leP q p) : p = q := by
  unfold leP at *
  rcases ltT_tri p.1 q.1 with c | c | c
  · exact absurd (.inl c) b
  · rcases ltT_tri p.2 q.2 with d | d | d
    · exact absurd (.inr ⟨c, d⟩) b
    · exact Prod.ext c d
    · exact absurd (.inr ⟨c.symm, d⟩) a
  · exact absurd (.inl c) a
theorem pairsW_sorted {ws : List Str} (h : Asc ws) : (pairsW ws).Pairwise leP := by
  have row : ∀ (x : Str) (vs : List Str), Asc vs → (vs.map fun y => (x, y)).Pairwise leP := fun x vs hv =>
    List.Pairwise.map _ (fun a b q => by
      rintro (z | ⟨_, z⟩)
      · exact ltT_irr _ z
      · exact ltT_asym q z) hv
  have all : ∀ us : List Str, Asc us → (us.flatMap fun x => ws.map fun y => (x, y)).Pairwise leP := by
    intro us
    induction us with
    | nil => exact fun _ => .nil
    | cons u us ih =>
      intro hu
      rw [List.flatMap_cons]
      have hu' := List.pairwise_cons.mp hu
      refine List.pairwise_append.mpr ⟨row u ws h, ih hu'.2, fun p hp q hq => ?_⟩
      obtain ⟨y, hy, rfl⟩ := List.mem_map.mp hp
      obtain ⟨x, hx, hq⟩ := List.mem_flatMap.mp hq
      obtain ⟨z, hz, rfl⟩ := List.mem_map.mp hq
      have lt := hu'.1 x hx
      rintro (k | ⟨k, _⟩)
      · exact ltT_asym lt k
      · have k' : x = u := k
        rw [k'] at lt
        exact ltT_irr u lt
  exact all ws h
theorem pairsW_nodup {ws : List Str} (h : ws.Nodup) : (pairsW ws).Nodup := by
  have all : ∀ us : List Str, us.Nodup → (us.flatMap fun x => ws.map fun y => (x, y)).Nodup := by
    intro us
    induction us with
    | nil => exact fun _ => .nil
    | cons u us ih =>
      intro hu
      rw [List.flatMap_cons]
      have hu' := List.nodup_cons.mp hu
      refine List.nodup_append.mpr ⟨List.Pairwise.map _ (fun a b q e => q (congrArg Prod.snd e)) h, ih hu'.2, fun p hp q hq e => ?_⟩
      obtain ⟨y, hy, rfl⟩ := List.mem_map.mp hp
      obtain ⟨x, hx, hq⟩ := List.mem_flatMap.mp hq
      obtain ⟨z, hz, rfl⟩ := List.mem_map.mp hq
      have : u = x := congrArg Prod.fst e
      exact hu'.1 (this ▸ hx)
  exact all ws h
theorem pairsW_len (ws : List Str) : (pairsW ws).length = ws.length * ws.length := by
  unfold pairsW
  simp [List.length_flatMap, List.map_const', List.sum_replicate_nat]
def valW (f : Str → Str → Str) (p : Str × Str) : V := .str (f p.1 p.2)
theorem keyP_inj (p q : Str × Str) (h : keyP p = keyP q) : p = q := by
  obtain ⟨a, b⟩ := p
  obtain ⟨c, d⟩ := q
  simp only [keyP, List.cons.injEq, Sum.inr.injEq, and_true] at h
  exact Prod.ext h.1 h.2
/-- the table of f over ws, in the order of ws -/
def tabW (ws : List Str) (f : Str → Str → Str) : List (List Key × V) := (pairsW ws).map fun p => (keyP p, valW f p)
abbrev SqW (ws : List Str) : Str × Str → Prop := fun p => p.1 ∈ ws ∧ p.2 ∈ ws
theorem tabW_tb {ws : List Str} {f : Str → Str → Str} (n : ws.Nodup) : TbG (SqW ws) keyP (valW f) (tabW ws f) :=
  (TbG.ofIdx keyP_inj (pairsW_nodup n)).congr fun p => mem_pairsW
theorem tabW_len (ws : List Str) (f : Str → Str → Str) : (tabW ws f).length = ws.length * ws.length := by
  unfold tabW
  rw [List.length_map, pairsW_len]
/-- one to four words, a product of them that is free of brackets -/
structure KW (ws : List Str) (f : Str → Str → Str) : Prop where
  asc : Asc ws
  pos : 0 < ws.length
  few : ws.length ≤ 4
  wd : ∀ x ∈ ws, Wd x
  cl : ∀ x y, x ∈ ws → y ∈ ws → f x y ∈ ws
  as : ∀ x y z, x ∈ ws → y ∈ ws → z ∈ ws → f (f x y) z = f x (f y z)
/-- entries by other indices -/
theorem TbG.reidx {ι κ : Type} {S : ι → Prop} {S' : κ → Prop} {key : ι → List Key} {val : ι → V} {key' : κ → List Key} {val' : κ → V} {kvs : List (List Key × V)} (h : TbG S key val kvs) (φ : ι → κ) (ψ : κ → ι)
    (a : ∀ i, S i → S' (φ i) ∧ key i = key' (φ i) ∧ val i = val' (φ i)) (b : ∀ j, S' j → S (ψ j) ∧ φ (ψ j) = j) : TbG S' key' val' kvs where
  nd := h.nd
  mem := fun e he => by
    obtain ⟨i, hi, rfl⟩ := h.mem e he
    obtain ⟨a1, a2, a3⟩ := a i hi
    exact ⟨φ i, a1, by rw [a2, a3]⟩
  has := fun j hj => by
    obtain ⟨b1, b2⟩ := b j hj
    have m := h.has _ b1
    obtain ⟨_, a2, a3⟩ := a _ b1
    rw [a2, a3, b2] at m
    exact m
/-- the sorted keys of such a dict are the pairs in order -/
theorem sorted_keys {W ws : List Str} {f : Str → Str → Str} {kvs : List (List Key × V)} (tb : TbG (SqW W) keyP (valW f) kvs) (n : W.Nodup) (as : Asc ws) (pm : ws.Perm W) : ∃ ps : List (Str × Str), kvs.map (·.1) = ps.map keyP ∧ ps.length = kvs.length ∧ kvs = ps.map (fun p => (keyP p, valW f p)) ∧ ∀ qs : List (Str × Str), qs.Perm ps → qs.Pairwise leP → qs = pairsW ws := by
  obtain ⟨is, e1, ndi, e2⟩ := tb.idxs keyP_inj
  refine ⟨is, by rw [e1, List.map_map]; rfl, by rw [e1, List.length_map], e1, fun qs h1 h2 => ?_⟩
  refine List.Perm.eq_of_pairwise (le := leP) (fun a b _ _ => leP_anti) h2 (pairsW_sorted as) (h1.trans ?_)
  refine (List.perm_ext_iff_of_nodup ndi (pairsW_nodup as.nodup)).mpr fun p => ?_
  rw [mem_pairsW, ← e2, pm.mem_iff, pm.mem_iff]
def prodW (W : List Str) (t : Nat → Nat → Nat) (x y : Str) : Str := W.getD (t (W.idxOf x) (W.idxOf y)) ⟨#[]⟩
theorem getD_mem {W : List Str} {j : Nat} (h : j < W.length) : W.getD j ⟨#[]⟩ ∈ W := by
  rw [List.getD_eq_getElem?_getD, List.getElem?_eq_getElem h]
  exact List.getElem_mem h
theorem idxOf_getD {W : List Str} {j : Nat} (n : W.Nodup) (h : j < W.length) : W.idxOf (W.getD j ⟨#[]⟩) = j := by
  rw [List.getD_eq_getElem?_getD, List.getElem?_eq_getElem h]
  exact List.Nodup.idxOf_getElem n j h
theorem getD_idxOf {W : List Str} {x : Str} (h : x ∈ W) : W.getD (W.idxOf x) ⟨#[]⟩ = x := by
  rw [List.getD_eq_getElem?_getD, List.getElem?_eq_getElem (List.idxOf_lt_length_of_mem h)]
  exact List.getElem_idxOf _
theorem kw_of {W : List Str} {n : Nat} {t : Nat → Nat → Nat} (fr : Free n t) (hn : W.length = n) (n0 : 0 < n) (n5 : n < 5) (nd : W.Nodup) (wd : ∀ x ∈ W, Wd x) : KW (ascOf W) (prodW W t) := by
  have pm := ascOf_perm W
  have lt : ∀ x, x ∈ W → W.idxOf x < n := fun x h => hn ▸ List.idxOf_lt_length_of_mem h
  have ix : ∀ x y, x ∈ W → y ∈ W → W.idxOf (prodW W t x y) = t (W.idxOf x) (W.idxOf y) := fun x y hx hy => idxOf_getD nd (by rw [hn]; exact fr.lt _ _ (lt x hx) (lt y hy))
  have mm : ∀ x y, x ∈ W → y ∈ W → prodW W t x y ∈ W := fun x y hx hy => getD_mem (by rw [hn]; exact fr.lt _ _ (lt x hx) (lt y hy))
  refine ⟨ascOf_asc nd, by rw [pm.length_eq, hn]; exact n0, by rw [pm.length_eq, hn]; omega, fun x hx => wd x (pm.mem_iff.mp hx), fun x y hx hy => pm.mem_iff.mpr (mm x y (pm.mem_iff.mp hx) (pm.mem_iff.mp hy)), fun x y z hx hy hz => ?_⟩
  have hx := pm.mem_iff.mp hx
  have hy := pm.mem_iff.mp hy
  have hz := pm.mem_iff.mp hz
  show W.getD (t (W.idxOf (prodW W t x y)) (W.idxOf z)) ⟨#[]⟩ = W.getD (t (W.idxOf x) (W.idxOf (prodW W t y z))) ⟨#[]⟩
  rw [ix x y hx hy, ix y z hy hz, fr.as _ _ _ (lt x hx) (lt y hy) (lt z hz)]
end KT
set_option Elab.async false
set_option linter.all false
set_option maxRecDepth 100000
set_option maxHeartbeats 4000000
namespace KT
open PySem L2 PyProof.Rows DTp
section
variable {P : Program} {w : World} {K : PySem.W.Frag} {mg : Str → Option Value} {base : Heap}
/-- dict([(key, value) for key in told]) -/
theorem rd_keys {ι : Type} {key key2 : ι → List Key} {val val2 : ι → V} {i : Nat} {g : TG} {te : TE} {vs : List Nat} {σ : L2.St} {H : Hp} {Q : VK} {d : Addr} {kvs : List (List Key × V)} {is : List ι} (hi : σ[i]? = some (some (.ref d))) (hd : H d = some (.dT kvs))
    (e1 : kvs = is.map fun a => (key a, val a)) (few : is.length ≤ 1000)
    (step : ∀ a q od H1 (R : VK), a ∈ is → L2.Same (upd H d (.frz od (.dT kvs))) H1 → H1 q = some (.tup ((key a).map kV)) → (∀ t b H3, L2.Same H1 H3 → H3 t = some (.tup [.ref b, val2 a]) → H3 b = some (.tup ((key2 a).map kV)) → R (.ref t) H3) → g (.ref q) (wipe σ vs) H1 fun σ2 H2 => wipe σ2 vs = wipe σ vs ∧ te σ2 H2 R)
    (k : ∀ q H', L2.Same H H' → H q = none → H' q = some (.dT (mergeT [] (is.map fun a => (key2 a, val2 a)))) → Q (.ref q) H') :
    tCB (rDictT K) (tCons (tLockE (tLc (iKeys (tVar i)) g tYes te vs)) tNil) σ H Q := by
  have li : is.length = kvs.length := by rw [e1, List.length_map]
  refine ⟨d, .dT kvs, hd, trivial, fun od => ?_⟩
  refine ⟨_, hi, d, od, rfl, .inr ⟨kvs, upd_same, fun D hD => ?_⟩⟩
  have nDd : D ≠ d := fun e => by rw [e, upd_same] at hD; cases hD
  have hD0 : H D = none := by rw [upd_ne nDd] at hD; exact hD
  refine lc_pairs (key := key2) (val := val2) walk_keysT is li (by omega) hD (fun H' s => s _ _ upd_same) ?_ ?_
  · rintro n x H1 H1' a R ha s1 ⟨rfl, kk, v, q, hk, rfl, hq⟩ kR
    have ek : kvs[n]? = some (key a, val a) := by rw [e1, List.getElem?_map, ha]; rfl
    rw [hk] at ek
    have ek := Option.some.inj ek
    obtain ⟨rfl, rfl⟩ : kk = key a ∧ v = val a := ⟨congrArg Prod.fst ek, congrArg Prod.snd ek⟩
    exact step a q od _ R (List.mem_of_getElem? ha) s1 hq kR
  · intro H1 ps s1 hDp pr
    have hdl : H1 d = some (.frz od (.dT kvs)) := s1 _ _ upd_same
    refine ⟨hdl, D, ps, is.map (fun i => (key2 i, val2 i)), rfl, SqL.of ((upd_ne nDd).trans hDp), ?_, fun q hq => ?_⟩
    · refine PrG.prT (key := key2) (val := val2) (is := is) (Paired.mapP pr fun p a ⟨b, h1, h2⟩ => ⟨b, ?_, ?_⟩)
      · rw [upd_ne (ne_of h1 hdl (fun z => nomatch z))]; exact h1
      · rw [upd_ne (ne_of h2 hdl (fun z => nomatch z))]; exact h2
    · have same : L2.Same H (upd H1 d (.dT kvs)) := fun b o e => by
        by_cases hb : b = d
        · rw [hb] at e ⊢
          rw [hd] at e
          rw [upd_same]; exact e
        · rw [upd_ne hb]
          exact s1 _ _ ((upd_ne hb).trans e)
      have hq0 := same.free hq
      refine k q _ (fun b o e => ?_) hq0 upd_same
      rw [upd_ne (ne_of_none e hq0)]
      exact same _ _ e
/-- dict([(key, value) for key in list]), the list's things the tuples at qs -/
theorem rd_list {ι : Type} {key2 : ι → List Key} {val2 : ι → V} {tl : TE} {g : TG} {te : TE} {vs : List Nat} {σ : L2.St} {H : Hp} {Q : VK} {is : List ι} (Pd : Hp → Prop) (few : is.length ≤ 1000)
    (hl : ∀ R : VK, (∀ l (qs : List (Addr × ι)) H1, qs.map (·.2) = is → H1 l = some (.lst (qs.map fun q => V.ref q.1)) → Pd H1 →
      (∀ (n : Nat) q H2 (R2 : VK), qs[n]? = some q → L2.Same H1 H2 → (∀ t b H3, L2.Same H2 H3 → H3 t = some (.tup [.ref b, val2 q.2]) → H3 b = some (.tup ((key2 q.2).map kV)) → R2 (.ref t) H3) → g (.ref q.1) (wipe σ vs) H2 fun σ2 H3 => wipe σ2 vs = wipe σ vs ∧ te σ2 H3 R2) → R (.ref l) H1) → tl σ H R)
    (k : ∀ q H1 H', Pd H1 → L2.Same H1 H' → H1 q = none → H' q = some (.dT (mergeT [] (is.map fun a => (key2 a, val2 a)))) → Q (.ref q) H') :
    tCB (rDictT K) (tCons (tLc (iList K tl) g tYes te vs) tNil) σ H Q := by
  refine hl _ fun l qs H1 eqs h1 s1 step => ?_
  have lq : qs.length = is.length := by rw [← eqs, List.length_map]
  refine ⟨l, rfl, ⟨_, SqL.of h1⟩, fun D hD => ?_⟩
  have nDl : l ≠ D := ne_of_none h1 hD
  refine lc_pairs (key := key2) (val := val2) (walk_list (xs := qs.map fun q => V.ref q.1)) is (by rw [List.length_map]; exact lq.symm) (by rw [List.length_map]; omega) hD (fun H' s => SqL.of (s _ _ h1)) ?_ ?_
  · rintro n x H2 H2' a R ha s2 ⟨rfl, hx⟩ kR
    rw [List.getElem?_map] at hx
    cases e : qs[n]? with
    | none => rw [e] at hx; cases hx
    | some q =>
      rw [e] at hx
      obtain rfl : V.ref q.1 = x := Option.some.inj hx
      have ea : q.2 = a := by
        rw [← eqs, List.getElem?_map, e] at ha
        exact Option.some.inj ha
      subst ea
      exact step n q _ R e s2 kR
  · intro H2 ps s2 hDp pr
    refine ⟨D, ps, is.map (fun i => (key2 i, val2 i)), rfl, SqL.of hDp, PrG.prT pr, fun q hq => ?_⟩
    have hq0 := s2.free hq
    refine k q _ _ s1 (fun b o e => ?_) hq0 upd_same
    rw [upd_ne (ne_of_none e hq0)]
    exact s2 _ _ e
end
end KT
set_option Elab.async false
set_option linter.all false
set_option maxRecDepth 100000
set_option maxHeartbeats 4000000
namespace KT
open PySem L2 PyProof.Rows DTp
/-- a statement whose end is told by the reader -/
def tCut (t : TS) : TS := fun D σ H => ∃ Pn : L2.St → Hp → Prop, t { D with nx := Pn } σ H ∧ ∀ σ' H', Pn σ' H' → D.nx σ' H'
theorem ps_cut {X : Cx} {st : Stmt} {t : TS} (h : PS X st t) : PS X st (tCut t) := by
  refine ⟨fun pins s σ H D I hw => ?_⟩
  obtain ⟨Pn, hw, kn⟩ := hw
  refine thn (h.run pins s σ _ _ I hw) fun f s1 q => ?_
  cases f with
  | next => obtain ⟨σ', H', I2, q⟩ := q; exact ⟨σ', _, I2, kn _ _ q⟩
  | brk => exact q
  | cont => exact q
  | ret v => exact q
/-- a test whose end is told by the reader -/
def tCutT (t : TT) : TT := fun σ H Q => ∃ Pn : Bool → Hp → Prop, t σ H Pn ∧ ∀ b H', Pn b H' → Q b H'
theorem pt_cut {X : Cx} {e : Expr} {t : TT} (h : PT X e t) : PT X e (tCutT t) := ⟨fun pins s σ H Q I hw => by
  obtain ⟨Pn, hw, kn⟩ := hw
  exact thn (h.run pins s σ H _ I hw) fun c s1 ⟨H1, I1, q⟩ => ⟨H1, I1, kn _ _ q⟩⟩
section
variable {P : Program} {w : World} {K : PySem.W.Frag} {mg : Str → Option Value} {base : Heap}
theorem TabAt.but {H H' : Hp} {a p : Addr} {n : Nat} {t : Nat → Nat → Nat} (b : But p H H') (h : TabAt H a n t) (ne : a ≠ p) : TabAt H' a n t := let ⟨kvs, h1, h2⟩ := h; ⟨kvs, b a _ ne h1, h2⟩
theorem TabAt.ne {H : Hp} {a p : Addr} {n : Nat} {t : Nat → Nat → Nat} {B : Int} (h : TabAt H a n t) (hP : PurseAt H p B) : a ≠ p := fun e => by
  obtain ⟨kvs, h1, _⟩ := h
  obtain ⟨_, _, _, _, q, _⟩ := hP
  rw [e, q] at h1
  cases h1
theorem swap_inj (i j : Ix) (h : keyI (i.2, i.1) = keyI (j.2, j.1)) : i = j := by
  have e := keyI_inj _ _ h
  obtain ⟨a, b⟩ := i
  obtain ⟨c, d⟩ := j
  simp only [Prod.mk.injEq] at e
  exact Prod.ext e.2 e.1
def spTable : Sp := fun vs H Q _ => ∃ (p : Addr) (B : Int) (mo : Nat), vs = [.ref p, .int mo] ∧ 0 < mo ∧ mo ≤ 4 ∧ PurseAt H p B ∧ 0 ≤ B ∧ B ≤ 900000 ∧
  ∀ (q : Addr) (ws : List Str) (f : Str → Str → Str) (H' : Hp), H q = none → But p H H' → PurseAt H' p (B + 2000) → H' q = some (.dT (tabW ws f)) → KW ws f → Q (.ref q) H'
abbrev nTable : List Str := ["_law_purse_here", "_law_most", "_law_many", "_law_way", "_law_told", "_law_late", "_law_words_here", "_law_named", "_law_x", "_law_y", "_law_pair"]
theorem scTable : FnScope nTable ["_law_purse_here", "_law_most"] (defScope sTable) := ⟨rfl, rfl, rfl, by decide +kernel, rfl, by decide +kernel, by decide +kernel⟩
structure TabC (P : Program) (w : World) (K : PySem.W.Frag) (mg : Str → Option Value) (base : Heap) : Prop where
  draw : DrawC P w K mg base
  plain : Cee P w K mg base 1 "_law_plain_table" ["_law_way", "_law_many"] spPlain
  wide : Cee P w K mg base 1 "_law_wide_table" ["_law_told", "_law_many", "_law_way"] spWide
  two : Cee P w K mg base 1 "_law_twofold_table" ["_law_one", "_law_other"] spTwo
  twin : Cee P w K mg base 1 "_law_twin_table" ["_law_told", "_law_many", "_law_twin"] spTwin
  lead : Cee P w K mg base 1 "_law_leading_table" ["_law_told", "_law_many"] spLead
  any : Cee P w K mg base 3 "_law_any_table" ["_law_purse_here", "_law_many"] spAnyT
  words : Cee P w K mg base 4 "_law_words" ["_law_purse_here", "_law_many"] spWords
abbrev gXY (K : PySem.W.Frag) (i j : Nat) : TG := gTup K 2 (gCons (gName i) (gCons (gName j) gNil))
theorem ok_table {f : Addr} {fd : FuncData} (F : Fun K "_law_table" "_law_table" sTable f fd) (T : Blt mg) (hdi : mg "dict" = none) (hso : mg "sorted" = none) (C : TabC P w K mg base) : FnOk P w K mg base CX0 5 f fd ["_law_purse_here", "_law_most"] spTable := by
  refine F.ok scTable (fun vs H Q E h => ?_) (fun cdv A outer s H vs Q E hr h => ?_)
  · obtain ⟨p, B, mo, rfl, _⟩ := h
    rfl
  · obtain ⟨p, B, mo, rfl, mo0, mo4, hP, B0, B1, k⟩ := h
    have nd := scTable.nd
    have hun := hr.units
    refine ⟨_, pss_cons (ps_set (i := 2) nd rfl (Or.inl rfl) (pe_op op_add pe_int (pe_c C.draw hr rfl (pa_cons (pv 0) (pa_cons (pv 1) pa_nil)))))
      (pss_cons (ps_asg (pe_tup (pa_cons (pe_c C.draw hr rfl (pa_cons (pv 0) (pa_cons pe_int pa_nil))) (pa_cons pe_non (pa_cons (pe_c C.draw hr rfl (pa_cons (pv 0) (pa_cons pe_int pa_nil))) pa_nil))))
        (pg_tup rfl (pgs_cons (pg_name (i := 3) nd rfl (Or.inl rfl)) (pgs_cons (pg_name (i := 4) nd rfl (Or.inr rfl)) (pgs_cons (pg_name (i := 5) nd rfl (Or.inl rfl)) pgs_nil)))))
      (pss_cons (ps_cut (ps_if (pt_cut <| PW.pt (pw_and (pt_cmpR op_eq (pv 2) pe_int (nomark _)) (pw_and1 (pt_cmpR op_eq (pe_c C.draw hr rfl (pa_cons (pv 0) (pa_cons pe_int pa_nil))) pe_int (nomark _)))))
          (pss_one (ps_set (i := 4) nd rfl (Or.inr rfl) (pe_c C.two hr rfl (pa_cons (pe_c C.plain hr rfl (pa_cons (pv 3) (pa_cons pe_int pa_nil))) (pa_cons (pe_c C.plain hr rfl (pa_cons (pe_c C.draw hr rfl (pa_cons (pv 0) (pa_cons pe_int pa_nil))) (pa_cons pe_int pa_nil))) pa_nil)))))
        (pss_one (ps_if (pt_cut <| PW.pt (pw_and (pt_cmpR op_gt (pv 2) pe_int (nomark _)) (pw_and1 (pt_cmpR op_lt (pv 5) pe_int (nomark _)))))
          (pss_one (ps_set (i := 4) nd rfl (Or.inr rfl) (pe_c C.wide hr rfl (pa_cons (pe_c C.plain hr rfl (pa_cons (pv 3) (pa_cons (pe_op op_sub (pv 2) pe_int) pa_nil))) (pa_cons (pe_op op_sub (pv 2) pe_int) (pa_cons (pv 5) pa_nil))))))
        (pss_one (ps_if (pt_cut <| PW.pt (pw_and (pt_cmpR op_gt (pv 2) pe_int (nomark _)) (pw_and1 (pt_cmpR op_eq (pv 5) pe_int (nomark _)))))
          (pss_one (ps_set (i := 4) nd rfl (Or.inr rfl) (pe_c C.twin hr rfl (pa_cons (pe_c C.plain hr rfl (pa_cons (pv 3) (pa_cons (pe_op op_sub (pv 2) pe_int) pa_nil))) (pa_cons (pe_op op_sub (pv 2) pe_int) (pa_cons (pe_c C.draw hr rfl (pa_cons (pv 0) (pa_cons (pe_op op_sub (pv 2) pe_int) pa_nil))) pa_nil))))))
        (pss_one (ps_if (pt_cut <| PW.pt (pw_and (pt_cmpR op_gt (pv 2) pe_int (nomark _)) (pw_and1 (pt_cmpR op_eq (pv 5) pe_int (nomark _)))))
          (pss_one (ps_set (i := 4) nd rfl (Or.inr rfl) (pe_c C.lead hr rfl (pa_cons (pe_c C.plain hr rfl (pa_cons (pe_op op_add pe_int (pe_c C.draw hr rfl (pa_cons (pv 0) (pa_cons pe_int pa_nil)))) (pa_cons (pe_op op_sub (pv 2) pe_int) pa_nil))) (pa_cons (pe_op op_sub (pv 2) pe_int) pa_nil)))))
        (pss_one (ps_if (pt_cmpR op_lt (pv 5) pe_int (nomark _))
          (pss_one (ps_set (i := 4) nd rfl (Or.inr rfl) (pe_c C.any hr rfl (pa_cons (pv 0) (pa_cons (pv 2) pa_nil)))))
          (pss_one (ps_set (i := 4) nd rfl (Or.inr rfl) (pe_c C.plain hr rfl (pa_cons (pv 3) (pa_cons (pv 2) pa_nil)))))))))))))))
      (pss_cons (ps_cut (ps_if (pt_cmpR op_eq (pe_c C.draw hr rfl (pa_cons (pv 0) (pa_cons pe_int pa_nil))) pe_int (nomark _))
        (pss_one (ps_set (i := 4) nd rfl (Or.inr rfl) (pe_callTy (cr_dictT rfl (u2 hr.units)) (by rfl) hdi (by decide +kernel) (pa_cons (pe_lock (pe_lc (own := [("_law_x", 8), ("_law_y", 9)]) (g := gXY K 8 9) (tt := tYes)
            (te := tTup (tCons (tTup (tCons (tVar 9) (tCons (tVar 8) tNil))) (tCons (tDGet (tVar 4) (tTup (tCons (tVar 8) (tCons (tVar 9) tNil)))) tNil))) rfl nd (pi_keys (pv 4))
            (blkOk_by (own := [("_law_x", 8), ("_law_y", 9)]) (N := nTable) (sc := defScope sTable) (by decide +kernel)) (fun _ _ _ _ _ => pg_tup rfl (pgs_cons (pg_name (i := 8) nd rfl (Or.inl rfl)) (pgs_cons (pg_name (i := 9) nd rfl (Or.inl rfl)) pgs_nil))) (fun _ _ _ _ _ => pts_nil)
            (fun _ _ _ _ _ => pe_tup (pa_cons (pe_tup (pa_cons (pv 9) (pa_cons (pv 8) pa_nil))) (pa_cons (pe_dget (hu_of hr) (pv 4) (pe_tup (pa_cons (pv 8) (pa_cons (pv 9) pa_nil))) (fun _ _ => rfl)) pa_nil))))) pa_nil)))) pss_nil))
      (pss_cons (ps_set (i := 6) nd rfl (Or.inr rfl) (pe_c C.words hr rfl (pa_cons (pv 0) (pa_cons (pv 2) pa_nil))))
      (pss_cons (ps_set (i := 7) nd rfl (Or.inr rfl) (pe_callTy (cr_dictT rfl (u2 hr.units)) (by rfl) hdi (by decide +kernel) (pa_cons (pe_lock (pe_lc (own := [("_law_x", 8), ("_law_y", 9)]) (g := gXY K 8 9) (tt := tYes)
            (te := tTup (tCons (tTup (tCons (tOp (rIxL K) (tVar 6) (tVar 8)) (tCons (tOp (rIxL K) (tVar 6) (tVar 9)) tNil))) (tCons (tOp (rIxL K) (tVar 6) (tDGet (tVar 4) (tTup (tCons (tVar 8) (tCons (tVar 9) tNil))))) tNil))) rfl nd (pi_keys (pv 4))
            (blkOk_by (own := [("_law_x", 8), ("_law_y", 9)]) (N := nTable) (sc := defScope sTable) (by decide +kernel)) (fun _ _ _ _ _ => pg_tup rfl (pgs_cons (pg_name (i := 8) nd rfl (Or.inl rfl)) (pgs_cons (pg_name (i := 9) nd rfl (Or.inl rfl)) pgs_nil))) (fun _ _ _ _ _ => pts_nil)
            (fun _ _ _ _ _ => pe_tup (pa_cons (pe_tup (pa_cons (pe_ix ix_list (pv 6) (pv 8) (fun _ _ => rfl)) (pa_cons (pe_ix ix_list (pv 6) (pv 9) (fun _ _ => rfl)) pa_nil))) (pa_cons (pe_ix ix_list (pv 6) (pe_dget (hu_of hr) (pv 4) (pe_tup (pa_cons (pv 8) (pa_cons (pv 9) pa_nil))) (fun _ _ => rfl)) (fun _ _ => rfl)) pa_nil))))) pa_nil)))
      (pss_one (ps_ret (pe_callTy (cr_dictT rfl (u2 hr.units)) (by rfl) hdi (by decide +kernel) (pa_cons (pe_lc (own := [("_law_pair", 10)]) (g := gName 10) (tt := tYes)
            (te := tTup (tCons (tVar 10) (tCons (tDGet (tVar 7) (tVar 10)) tNil))) rfl nd (pi_list (pe_callB (cr_sortT rfl hr.units) (by rfl) hso (by decide +kernel) (pa_cons (pv 7) pa_nil)))
            (blkOk_by (own := [("_law_pair", 10)]) (N := nTable) (sc := defScope sTable) (by decide +kernel)) (fun _ _ _ _ _ => pg_name (i := 10) nd rfl (Or.inl rfl)) (fun _ _ _ _ _ => pts_nil)
            (fun _ _ _ _ _ => pe_tup (pa_cons (pv 10) (pa_cons (pe_dget (hu_of hr) (pv 7) (pv 10) (fun _ _ => rfl)) pa_nil)))) pa_nil))))))))), ?_⟩
    refine ⟨_, rfl, _, rfl, p, (mo : Nat), B, rfl, hP, B0, by omega, by omega, Int.lt_of_le_of_lt (show _ ≤ (4 : Int) by omega) (by decide), fun r1 H1 bt1 hP1 r10 r11 => ?_⟩
    obtain ⟨m, rfl⟩ := nat_of (m := 0) r10
    obtain ⟨n, en⟩ : ∃ n : Nat, n = m + 1 := ⟨_, rfl⟩
    have n0 : 0 < n := by omega
    have n5 : n < 5 := by omega
    refine ⟨_, _, rfl, rfl, ?_⟩
    refine at_name (σ' := [some (.ref p), some (.int (mo : Nat)), some (.int (n : Int)), none, none, none, none, none, none, none, none]) (by rw [← show (1 : Int) + (m : Int) = (n : Int) by omega]; rfl) ?_
    refine ⟨_, rfl, p, 8, _, rfl, hP1, by omega, by omega, by decide, by decide, fun r2 H2 bt2 hP2 r20 r21 => ?_⟩
    refine ⟨_, rfl, p, 9, _, rfl, hP2, by omega, by omega, by decide, by decide, fun r3 H3 bt3 hP3 r30 r31 => ?_⟩
    obtain ⟨way, rfl⟩ := nat_of (m := 0) r20
    obtain ⟨late, rfl⟩ := nat_of (m := 0) r30
    have hway : way < 8 := by omega
    refine ⟨(by show 3 ≤ sizeLine; decide), fun tt htt => ?_⟩
    have btt := bt1.trans (bt2.trans bt3)
    have a1 := Same.new (H := H3) (o := .tup [V.int (way : Int), .non, V.int (late : Int)]) htt
    have a2 : upd H3 tt (.tup [V.int (way : Int), .non, V.int (late : Int)]) tt = _ := upd_same
    generalize upd H3 tt (.tup [V.int (way : Int), .non, V.int (late : Int)]) = G at a1 a2 ⊢
    have btG : But p H G := btt.same a1
    have hPG : PurseAt G p (B + 12) := (hP3.mono a1).le (by omega)
    refine ⟨tt, _, rfl, SqT.of a2, rfl, _, _, rfl, ?_⟩
    refine at_name (σ' := [some (.ref p), some (.int (mo : Nat)), some (.int (n : Int)), some (.int (way : Int)), none, none, none, none, none, none, none]) rfl ?_
    refine ⟨_, _, rfl, ?_⟩
    refine at_name (σ' := [some (.ref p), some (.int (mo : Nat)), some (.int (n : Int)), some (.int (way : Int)), some .non, none, none, none, none, none, none]) rfl ?_
    refine ⟨_, _, rfl, ?_⟩
    refine at_name (σ' := [some (.ref p), some (.int (mo : Nat)), some (.int (n : Int)), some (.int (way : Int)), some .non, some (.int (late : Int)), none, none, none, none, none]) rfl ?_
    refine ⟨rfl, ?_⟩
    clear a2 htt a1 hP1 hP2 hP3 bt1 bt2 bt3 btt
    refine ⟨fun σ H' => ∃ (d : Addr) (t : Nat → Nat → Nat), σ = [some (.ref p), some (.int (mo : Nat)), some (.int (n : Int)), some (.int (way : Int)), some (.ref d), some (.int (late : Int)), none, none, none, none, none] ∧ But p H H' ∧ PurseAt H' p (B + 150) ∧ TabAt H' d n t ∧ Free n t, ?_, ?_⟩
    · refine ⟨fun b H' => But p H H' ∧ PurseAt H' p (B + 16) ∧ (b = true → n = 4), ?_, ?_⟩
      · refine ⟨_, rfl, rfl, _, rfl, ?_⟩
        refine ite2 (fun h4 => ?_) (fun h4 => ?_)
        · have e4 : n = 4 := by
            have := of_decide_eq_true h4
            injection this with e
            omega
          refine ⟨_, rfl, p, 3, _, rfl, hPG, by omega, by omega, by decide, by decide, fun r H4 bt4 hP4 r0 r1 => ?_⟩
          exact ⟨rfl, _, rfl, btG.trans bt4, hP4.le (by omega), fun _ => e4⟩
        · exact ⟨btG, hPG.le (by omega), fun e => (by cases e)⟩
      · rintro b H4 ⟨bt4, hP4, h4⟩
        refine ite2 (fun hb => ?_) (fun hb => ?_)
        · have e4 := h4 hb
          refine ⟨_, rfl, way, 2, rfl, hway, by decide, by decide, fun a H5 s5 ha5 ta => ?_⟩
          refine ⟨_, rfl, p, 8, _, rfl, hP4.mono s5, by omega, by omega, by decide, by decide, fun r H6 bt6 hP6 r0 r1 => ?_⟩
          obtain ⟨v, rfl⟩ := nat_of (m := 0) r0
          refine ⟨v, 2, rfl, by omega, by decide, by decide, fun b2 H7 s7 hb7 tb => ?_⟩
          have nap : a ≠ p := fun e => by
            obtain ⟨_, _, _, _, q, _⟩ := hP4
            rw [e, q] at ha5
            cases ha5
          refine ⟨a, b2, _, _, rfl, (ta.but bt6 nap).mono s7, tb, fun q H8 s8 hq tq => ?_⟩
          refine at_name (σ' := [some (.ref p), some (.int (mo : Nat)), some (.int (n : Int)), some (.int (way : Int)), some (.ref q), some (.int (late : Int)), none, none, none, none, none]) rfl ?_
          refine ⟨q, twofoldT (plainT way 2) (plainT v 2), rfl, (((bt4.same s5).trans bt6).same s7).same s8, ((hP6.mono s7).mono s8).le (by omega), ?_, ?_⟩
          · rw [e4]; exact tq
          · rw [e4]; exact free_of (twofold_free way hway v (by omega))
        · refine ⟨fun b H' => H' = H4 ∧ (b = true → 1 < n ∧ late < 2), ?_, ?_⟩
          · refine ⟨_, rfl, _, _, rfl, rfl, _, rfl, ?_⟩
            refine ite2 (fun h1 => ?_) (fun h1 => ?_)
            · have h1 := of_decide_eq_true h1
              refine ⟨_, rfl, _, _, rfl, rfl, _, rfl, rfl, fun h2 => ?_⟩
              have h2 := of_decide_eq_true h2
              exact ⟨by omega, by omega⟩
            · exact ⟨rfl, fun e => (by cases e)⟩
          · rintro b H5 ⟨rfl, hc⟩
            refine ite2 (fun hb => ?_) (fun hb => ?_)
            · obtain ⟨c1, c2⟩ := hc hb
              have en1 : (n : Int) - 1 = ((n - 1 : Nat) : Int) := by omega
              have en2 : n - 1 + 1 = n := by omega
              refine ⟨_, rfl, _, rfl, _, _, rfl, rfl, ?_⟩
              refine ⟨way, n - 1, by rw [← en1]; rfl, hway, by omega, by omega, fun a H6 s6 ha6 ta => ?_⟩
              refine ⟨_, rfl, _, _, rfl, rfl, _, rfl, ?_⟩
              refine ⟨a, n - 1, late, _, by rw [← en1]; rfl, by omega, by omega, ta, fun q H7 s7 hq tq => ?_⟩
              refine at_name (σ' := [some (.ref p), some (.int (mo : Nat)), some (.int (n : Int)), some (.int (way : Int)), some (.ref q), some (.int (late : Int)), none, none, none, none, none]) rfl ?_
              rw [en2] at tq
              have fr := free_of (wide_free way hway (n - 1) (by omega) (by omega) late c2)
              rw [en2] at fr
              exact ⟨q, _, rfl, (bt4.same s6).same s7, ((hP4.mono s6).mono s7).le (by omega), tq, fr⟩
            · refine ⟨fun b H' => H' = H5 ∧ (b = true → 1 < n), ?_, ?_⟩
              · refine ⟨_, rfl, _, _, rfl, rfl, _, rfl, ?_⟩
                refine ite2 (fun h1 => ?_) (fun h1 => ?_)
                · have h1 := of_decide_eq_true h1
                  exact ⟨_, rfl, rfl, _, rfl, rfl, fun _ => by omega⟩
                · exact ⟨rfl, fun e => (by cases e)⟩
              · rintro b H6 ⟨rfl, hc⟩
                refine ite2 (fun hb => ?_) (fun hb => ?_)
                · have c1 := hc hb
                  have en1 : (n : Int) - 1 = ((n - 1 : Nat) : Int) := by omega
                  have en2 : n - 1 + 1 = n := by omega
                  refine ⟨_, rfl, _, rfl, _, _, rfl, rfl, ?_⟩
                  refine ⟨way, n - 1, by rw [← en1]; rfl, hway, by omega, by omega, fun a H7 s7 ha7 ta => ?_⟩
                  refine ⟨_, rfl, _, _, rfl, rfl, _, rfl, _, rfl, _, _, rfl, rfl, ?_⟩
                  refine ⟨p, _, _, rfl, hP4.mono s7, by omega, by omega, by omega, by omega, fun r H8 bt8 hP8 r0 r1 => ?_⟩
                  obtain ⟨v, rfl⟩ := nat_of (m := 0) r0
                  have nap : a ≠ p := fun e => by
                    obtain ⟨_, _, _, _, q, _⟩ := hP4
                    rw [e, q] at ha7
                    cases ha7
                  refine ⟨a, n - 1, v, _, by rw [← en1]; rfl, by omega, by omega, by omega, ta.but bt8 nap, fun q H9 s9 hq tq => ?_⟩
                  refine at_name (σ' := [some (.ref p), some (.int (mo : Nat)), some (.int (n : Int)), some (.int (way : Int)), some (.ref q), some (.int (late : Int)), none, none, none, none, none]) rfl ?_
                  rw [en2] at tq
                  have fr := free_of (twin_free way hway (n - 1) (by omega) (by omega) v (by omega))
                  rw [en2] at fr
                  exact ⟨q, _, rfl, ((bt4.same s7).trans bt8).same s9, (hP8.mono s9).le (by omega), tq, fr⟩
                · refine ⟨fun b H' => H' = H6 ∧ (b = true → 1 < n), ?_, ?_⟩
                  · refine ⟨_, rfl, _, _, rfl, rfl, _, rfl, ?_⟩
                    refine ite2 (fun h1 => ?_) (fun h1 => ?_)
                    · have h1 := of_decide_eq_true h1
                      exact ⟨_, rfl, rfl, _, rfl, rfl, fun _ => by omega⟩
                    · exact ⟨rfl, fun e => (by cases e)⟩
                  · rintro b H7 ⟨rfl, hc⟩
                    refine ite2 (fun hb => ?_) (fun hb => ?_)
                    · have c1 := hc hb
                      have en1 : (n : Int) - 1 = ((n - 1 : Nat) : Int) := by omega
                      have en2 : n - 1 + 1 = n := by omega
                      refine ⟨_, rfl, p, 2, _, rfl, hP4, by omega, by omega, by decide, by decide, fun r H8 bt8 hP8 r0 r1 => ?_⟩
                      obtain ⟨v, rfl⟩ := nat_of (m := 0) r0
                      refine ⟨_, _, rfl, rfl, _, rfl, _, _, rfl, rfl, ?_⟩
                      refine ⟨1 + v, n - 1, by rw [← en1]; rfl, by omega, by omega, by omega, fun a H9 s9 ha9 ta => ?_⟩
                      refine ⟨_, rfl, _, _, rfl, rfl, ?_⟩
                      refine ⟨a, n - 1, _, by rw [← en1]; rfl, by omega, by omega, ta, fun q H10 s10 hq tq => ?_⟩
                      refine at_name (σ' := [some (.ref p), some (.int (mo : Nat)), some (.int (n : Int)), some (.int (way : Int)), some (.ref q), some (.int (late : Int)), none, none, none, none, none]) rfl ?_
                      rw [en2] at tq
                      have fr := free_of (lead_free (1 + v) (by omega) (by omega) (n - 1) (by omega) (by omega))
                      rw [en2] at fr
                      exact ⟨q, _, rfl, ((bt4.trans bt8).same s9).same s10, ((hP8.mono s9).mono s10).le (by omega), tq, fr⟩
                    · refine ⟨_, rfl, _, _, rfl, rfl, _, rfl, ?_⟩
                      refine ite2 (fun _ => ?_) (fun _ => ?_)
                      · refine ⟨_, rfl, _, rfl, p, n, _, rfl, hP4, by omega, by omega, n0, n5, fun q t H8 hq bt8 hP8 tq fr => ?_⟩
                        refine at_name (σ' := [some (.ref p), some (.int (mo : Nat)), some (.int (n : Int)), some (.int (way : Int)), some (.ref q), some (.int (late : Int)), none, none, none, none, none]) rfl ?_
                        exact ⟨q, _, rfl, bt4.trans bt8, hP8.le (by omega), tq, fr⟩
                      · refine ⟨_, rfl, _, rfl, way, n, rfl, hway, n0, n5, fun q H8 s8 hq tq => ?_⟩
                        refine at_name (σ' := [some (.ref p), some (.int (mo : Nat)), some (.int (n : Int)), some (.int (way : Int)), some (.ref q), some (.int (late : Int)), none, none, none, none, none]) rfl ?_
                        exact ⟨q, _, rfl, bt4.same s8, (hP4.mono s8).le (by omega), tq, free_of (plain_free way hway n n5 n0)⟩
    · rintro σ H4 ⟨d, t, rfl, bt4, hP4, td, fr⟩
      have hun2 := u2 hr.units
      refine ⟨fun σ H' => ∃ (d : Addr) (t : Nat → Nat → Nat), σ = [some (.ref p), some (.int (mo : Nat)), some (.int (n : Int)), some (.int (way : Int)), some (.ref d), some (.int (late : Int)), none, none, none, none, none] ∧ But p H H' ∧ PurseAt H' p (B + 160) ∧ TabAt H' d n t ∧ Free n t, ?_, ?_⟩
      · refine ⟨_, rfl, p, 3, _, rfl, hP4, by omega, by omega, by decide, by decide, fun r H5 bt5 hP5 _ _ => ?_⟩
        have ndp := td.ne hP4
        have td5 := td.but bt5 ndp
        refine ⟨rfl, _, rfl, ?_⟩
        refine ite2 (fun _ => ?_) (fun _ => ?_)
        · obtain ⟨kvs, hd, tb⟩ := td5
          obtain ⟨is, e1, ndi, e2⟩ := tb.idxs keyI_inj
          have lis : is.length ≤ 1000 := by
            have := sq_len (n := 4) (t := t) tb fun i hi => ⟨by have := hi.1; omega, by have := hi.2; omega⟩
            rw [e1, List.length_map] at this
            omega
          refine rd_keys (key := keyI) (key2 := fun i : Ix => keyI (i.2, i.1)) (val := valI t) (val2 := valI t) rfl hd e1 lis ?_ ?_
          · rintro ⟨x, y⟩ q od H6 R ha s6 hq kR
            obtain ⟨hx, hy⟩ : x < n ∧ y < n := (e2 (x, y)).mpr ha
            have hq' : H6 q = some (.tup [V.int (x : Int), V.int (y : Int)]) := hq
            have tr : TabRd H6 d n t := ⟨kvs, .inr ⟨od, s6 _ _ upd_same⟩, tb⟩
            refine ⟨q, _, rfl, SqT.of hq', rfl, _, _, rfl, ?_⟩
            refine at_name (σ' := [some (.ref p), some (.int (mo : Nat)), some (.int (n : Int)), some (.int (way : Int)), some (.ref d), some (.int (late : Int)), none, none, some (.int (x : Int)), none, none]) rfl ?_
            refine ⟨_, _, rfl, ?_⟩
            refine at_name (σ' := [some (.ref p), some (.int (mo : Nat)), some (.int (n : Int)), some (.int (way : Int)), some (.ref d), some (.int (late : Int)), none, none, some (.int (x : Int)), some (.int (y : Int)), none]) rfl ?_
            refine ⟨rfl, rfl, ?_⟩
            refine ⟨_, rfl, _, rfl, (by show 2 ≤ sizeLine; decide), fun b hb => ?_⟩
            have b1 := Same.new (H := H6) (o := .tup [V.int (y : Int), V.int (x : Int)]) hb
            have b2 : upd H6 b (.tup [V.int (y : Int), V.int (x : Int)]) b = _ := upd_same
            generalize upd H6 b (.tup [V.int (y : Int), V.int (x : Int)]) = G1 at b1 b2 ⊢
            refine ⟨_, rfl, _, rfl, _, rfl, (by show 2 ≤ sizeLine; decide), fun t1 ht1 => ?_⟩
            have c1 := Same.new (H := G1) (o := .tup [V.int (x : Int), V.int (y : Int)]) ht1
            have c2 : upd G1 t1 (.tup [V.int (x : Int), V.int (y : Int)]) t1 = _ := upd_same
            generalize upd G1 t1 (.tup [V.int (x : Int), V.int (y : Int)]) = G2 at c1 c2 ⊢
            refine ⟨d, _, rfl, ((tr.mono b1).mono c1).get hx hy c2, (by show 2 ≤ sizeLine; decide), fun t2 ht2 => ?_⟩
            have d1 := Same.new (H := G2) (o := .tup [V.ref b, V.int (t x y : Nat)]) ht2
            exact kR t2 b _ (fun z o e => d1 _ _ (c1 _ _ (b1 _ _ e))) upd_same (d1 _ _ (c1 _ _ b2))
          · intro q H6 s6 hq0 hq
            refine at_name (σ' := [some (.ref p), some (.int (mo : Nat)), some (.int (n : Int)), some (.int (way : Int)), some (.ref q), some (.int (late : Int)), none, none, none, none, none]) rfl ?_
            refine ⟨q, fun x y => t y x, rfl, (bt4.trans bt5).same s6, (hP5.mono s6).le (by omega), ⟨_, hq, ?_⟩, fr.turn⟩
            have tm := (TbG.merge (val := valI t) swap_inj is TbG.nil).congr (S' := Sq n) fun a => by rw [false_or]; exact (e2 a).symm
            exact tm.reidx (fun i => (i.2, i.1)) (fun i => (i.2, i.1)) (fun i hi => ⟨⟨hi.2, hi.1⟩, rfl, rfl⟩) (fun i hi => ⟨⟨hi.2, hi.1⟩, rfl⟩)
        · exact ⟨d, t, rfl, bt4.trans bt5, hP5.le (by omega), td5, fr⟩
      · rintro σ H5 ⟨d, t, rfl, bt5, hP5, td, fr⟩
        refine ⟨_, rfl, _, rfl, p, n, _, rfl, hP5, by omega, by omega, by omega, by omega, fun L W H6 hL0 bt6 hP6 hL lw wd ndw => ?_⟩
        have ndp := td.ne hP5
        have td6 := td.but bt6 ndp
        have bt56 := bt5.trans bt6
        have lw' : W.length = n := by omega
        have kw := kw_of fr lw' n0 n5 ndw wd
        refine at_name (σ' := [some (.ref p), some (.int (mo : Nat)), some (.int (n : Int)), some (.int (way : Int)), some (.ref d), some (.int (late : Int)), some (.ref L), none, none, none, none]) rfl ?_
        obtain ⟨kvs, hd, tb⟩ := td6
        obtain ⟨is, e1, ndi, e2⟩ := tb.idxs keyI_inj
        have lis : is.length ≤ 16 := by
          have := sq_len (n := 4) (t := t) tb fun i hi => ⟨by have := hi.1; omega, by have := hi.2; omega⟩
          rw [e1, List.length_map] at this
          omega
        have wj : ∀ j, j < n → (W.map V.str)[j]? = some (.str (W.getD j ⟨#[]⟩)) := fun j hj => by
          rw [List.getElem?_map, List.getD_eq_getElem?_getD, List.getElem?_eq_getElem (by omega)]
          rfl
        refine rd_keys (key := keyI) (key2 := fun i : Ix => keyP (W.getD i.1 ⟨#[]⟩, W.getD i.2 ⟨#[]⟩)) (val := valI t) (val2 := fun i : Ix => valW (prodW W t) (W.getD i.1 ⟨#[]⟩, W.getD i.2 ⟨#[]⟩)) rfl hd e1 (by omega) ?_ ?_
        · rintro ⟨x, y⟩ q od H7 R ha s7 hq kR
          obtain ⟨hx, hy⟩ : x < n ∧ y < n := (e2 (x, y)).mpr ha
          have hq' : H7 q = some (.tup [V.int (x : Int), V.int (y : Int)]) := hq
          have tr : TabRd H7 d n t := ⟨kvs, .inr ⟨od, s7 _ _ upd_same⟩, tb⟩
          have nLd : L ≠ d := fun e => by rw [e, hd] at hL; cases hL
          have hL7 : H7 L = some (.lst (W.map V.str)) := s7 _ _ ((upd_ne nLd).trans hL)
          have ev : prodW W t (W.getD x ⟨#[]⟩) (W.getD y ⟨#[]⟩) = W.getD (t x y) ⟨#[]⟩ := by
            unfold prodW
            rw [idxOf_getD ndw (by omega), idxOf_getD ndw (by omega)]
          refine ⟨q, _, rfl, SqT.of hq', rfl, _, _, rfl, ?_⟩
          refine at_name (σ' := [some (.ref p), some (.int (mo : Nat)), some (.int (n : Int)), some (.int (way : Int)), some (.ref d), some (.int (late : Int)), some (.ref L), none, some (.int (x : Int)), none, none]) rfl ?_
          refine ⟨_, _, rfl, ?_⟩
          refine at_name (σ' := [some (.ref p), some (.int (mo : Nat)), some (.int (n : Int)), some (.int (way : Int)), some (.ref d), some (.int (late : Int)), some (.ref L), none, some (.int (x : Int)), some (.int (y : Int)), none]) rfl ?_
          refine ⟨rfl, rfl, ?_⟩
          refine ⟨_, rfl, _, rfl, L, _, (x : Int), _, rfl, rfl, SqL.of hL7, atI_nat (wj x hx), _, rfl, _, rfl, L, _, (y : Int), _, rfl, rfl, SqL.of hL7, atI_nat (wj y hy), (by show 2 ≤ sizeLine; decide), fun b hb => ?_⟩
          have b1 := Same.new (H := H7) (o := .tup [V.str (W.getD x ⟨#[]⟩), V.str (W.getD y ⟨#[]⟩)]) hb
          have b2 : upd H7 b (.tup [V.str (W.getD x ⟨#[]⟩), V.str (W.getD y ⟨#[]⟩)]) b = _ := upd_same
          generalize upd H7 b (.tup [V.str (W.getD x ⟨#[]⟩), V.str (W.getD y ⟨#[]⟩)]) = G1 at b1 b2 ⊢
          refine ⟨_, rfl, _, rfl, _, rfl, _, rfl, (by show 2 ≤ sizeLine; decide), fun t1 ht1 => ?_⟩
          have c1 := Same.new (H := G1) (o := .tup [V.int (x : Int), V.int (y : Int)]) ht1
          have c2 : upd G1 t1 (.tup [V.int (x : Int), V.int (y : Int)]) t1 = _ := upd_same
          generalize upd G1 t1 (.tup [V.int (x : Int), V.int (y : Int)]) = G2 at c1 c2 ⊢
          refine ⟨d, _, rfl, ((tr.mono b1).mono c1).get hx hy c2, L, _, (t x y : Nat), _, rfl, rfl, SqL.of (c1 _ _ (b1 _ _ hL7)), atI_nat (wj _ (fr.lt x y hx hy)), (by show 2 ≤ sizeLine; decide), fun t2 ht2 => ?_⟩
          have d1 := Same.new (H := G2) (o := .tup [V.ref b, V.str (W.getD (t x y) ⟨#[]⟩)]) ht2
          refine kR t2 b _ (fun z o e => d1 _ _ (c1 _ _ (b1 _ _ e))) ?_ (d1 _ _ (c1 _ _ b2))
          show _ = some (HO.tup [V.ref b, V.str (prodW W t (W.getD x ⟨#[]⟩) (W.getD y ⟨#[]⟩))])
          rw [ev]
          exact upd_same
        · intro dn H7 s7 hdn0 hdn
          have em : (is.map fun a : Ix => (keyP (W.getD a.1 ⟨#[]⟩, W.getD a.2 ⟨#[]⟩), valW (prodW W t) (W.getD a.1 ⟨#[]⟩, W.getD a.2 ⟨#[]⟩))) = (is.map fun a : Ix => (W.getD a.1 ⟨#[]⟩, W.getD a.2 ⟨#[]⟩)).map fun p => (keyP p, valW (prodW W t) p) := by rw [List.map_map]; rfl
          rw [em] at hdn
          have tm := (TbG.merge (val := valW (prodW W t)) keyP_inj (is.map fun a : Ix => (W.getD a.1 ⟨#[]⟩, W.getD a.2 ⟨#[]⟩)) TbG.nil).congr (S' := SqW W) fun a => by
            rw [false_or, List.mem_map]
            constructor
            · rintro ⟨i, hi, rfl⟩
              have hs := (e2 i).mpr hi
              exact ⟨getD_mem (by rw [lw']; exact hs.1), getD_mem (by rw [lw']; exact hs.2)⟩
            · rintro ⟨h1, h2⟩
              refine ⟨(W.idxOf a.1, W.idxOf a.2), (e2 _).mp ⟨lw' ▸ List.idxOf_lt_length_of_mem h1, lw' ▸ List.idxOf_lt_length_of_mem h2⟩, ?_⟩
              exact Prod.ext (getD_idxOf h1) (getD_idxOf h2)
          obtain ⟨kv2, ek⟩ : ∃ z, z = mergeT [] ((is.map fun a : Ix => (W.getD a.1 ⟨#[]⟩, W.getD a.2 ⟨#[]⟩)).map fun p => (keyP p, valW (prodW W t) p)) := ⟨_, rfl⟩
          rw [← ek] at hdn tm
          clear ek em
          refine at_name (σ' := [some (.ref p), some (.int (mo : Nat)), some (.int (n : Int)), some (.int (way : Int)), some (.ref d), some (.int (late : Int)), some (.ref L), some (.ref dn), none, none, none]) rfl ?_
          obtain ⟨ps, f1, f2, f3, f4⟩ := sorted_keys tm ndw kw.asc (ascOf_perm W)
          have bt7 : But p H H7 := bt56.same s7
          have hP7 := hP6.mono s7
          have lp : ps.length ≤ 16 := by
            rw [f2]
            have := tm.len (pairsW W) fun p hp => mem_pairsW.mpr hp
            rw [pairsW_len, lw'] at this
            have : n * n ≤ 4 * 4 := Nat.mul_le_mul (by omega) (by omega)
            omega
          have lpw : (pairsW (ascOf W)).length ≤ 1000 := by
            rw [pairsW_len, (ascOf_perm W).length_eq, lw']
            have : n * n ≤ 4 * 4 := Nat.mul_le_mul (by omega) (by omega)
            omega
          show tCB (rDictT K) (tCons (tLc (iList K (tCB DTp.rSortT (tCons (tVar 7) tNil))) (gName 10) tYes (tTup (tCons (tVar 10) (tCons (tDGet (tVar 7) (tVar 10)) tNil))) [10]) tNil) _ H7 Q
          refine rd_list (key2 := keyP) (val2 := valW (prodW W t)) (is := pairsW (ascOf W)) (fun H1 => L2.Same H7 H1) lpw ?_ ?_
          · intro R hR
            refine ⟨_, rfl, dn, kv2, ps, rfl, .inl hdn, f1, by omega, fun qs l h1 h2 h3 hl => ?_⟩
            have s8 := Same.new (H := H7) (o := .lst (qs.map fun q => V.ref q.1)) hl
            refine hR l qs _ (f4 _ h1 h2) upd_same s8 ?_
            intro m q H8 R2 hq s9 kR
            have hqm := h3 q (List.mem_of_getElem? hq)
            have hq8 : H8 q.1 = some (.tup ((keyP q.2).map kV)) := s9 _ _ (s8 _ _ hqm)
            have hq2 : SqW W q.2 := by
              have : q.2 ∈ qs.map (·.2) := List.mem_map.mpr ⟨q, List.mem_of_getElem? hq, rfl⟩
              rw [f4 _ h1 h2, mem_pairsW] at this
              exact ⟨(ascOf_perm W).mem_iff.mp this.1, (ascOf_perm W).mem_iff.mp this.2⟩
            have gt : DGet H8 dn (.ref q.1) (some (valW (prodW W t) q.2)) := by
              have e := DGet.t (k := keyP q.2) (s9 _ _ (s8 _ _ hdn)) hq8
              rw [tm.get hq2] at e
              exact e
            refine at_name (σ' := [some (.ref p), some (.int (mo : Nat)), some (.int (n : Int)), some (.int (way : Int)), some (.ref d), some (.int (late : Int)), some (.ref L), some (.ref dn), none, none, some (.ref q.1)]) rfl ?_
            refine ⟨rfl, _, rfl, _, rfl, _, rfl, dn, _, rfl, gt, (by show 2 ≤ sizeLine; decide), fun t2 ht2 => ?_⟩
            exact kR t2 q.1 _ (Same.new ht2) upd_same (Same.new ht2 _ _ hq8)
          · intro q H8 H9 s8 s9 hq0 hq
            have en : mergeT [] ((pairsW (ascOf W)).map fun a => (keyP a, valW (prodW W t) a)) = tabW (ascOf W) (prodW W t) := by
              rw [mergeT_nd _ _ (by rw [List.nil_append]; exact (tabW_tb (f := prodW W t) kw.asc.nodup).nd)]
              rfl
            rw [en] at hq
            have btE : But p H H8 := bt7.same s8
            exact k q (ascOf W) (prodW W t) H9 (btE.free (hP7.mono s8) hq0) (btE.same s9) (((hP7.mono s8).mono s9).le (by omega)) hq kw
end
end KT
set_option Elab.async false
set_option linter.all false
set_option maxRecDepth 100000
set_option maxHeartbeats 4000000
namespace KT
open PySem L2 PyProof.Rows DTp
section
variable {K : PySem.W.Frag}
theorem mergeT_snoc : ∀ (xs kvs : List (List Key × V)) (p : List Key × V), mergeT kvs (xs ++ [p]) = putK (mergeT kvs xs) p.1 p.2
  | [], _, _ => rfl
  | x :: xs, kvs, p => mergeT_snoc xs _ p
end
end KT
set_option Elab.async false
set_option linter.all false
set_option maxRecDepth 100000
set_option maxHeartbeats 4000000
namespace KT
open PySem L2 PyProof.Rows DTp
/-- built-ins that the program asks -/
structure Blp (mg : Str → Option Value) : Prop where
  isi : mg "isinstance" = none
  all : mg "all" = none
  sorted : mg "sorted" = none
  str : mg "str" = none
  bool : mg "bool" = none
  tuple : mg "tuple" = none
  list : mg "list" = none
  dict : mg "dict" = none
  letters : ∃ t, mg "LETTERS" = some (.str "abcdefghijklmnopqrstuvwxyz" t)
  longest : ∃ t, mg "LONGEST_WORD" = some (.int 8 t)
theorem boot_isi : bootBuiltins "isinstance" = some (.builtin "isinstance") := by decide +kernel
section
variable {J : It} {n : Nat} {G : Hp → Prop} {Y : Nat → Hp → V → Hp → Prop}
/-- a list of tests, all of them true -/
theorem lc_true (W : Walk J n G Y) {g : TG} {te : TE} {vs : List Nat} {σ : L2.St} {H1 : Hp} {D : Addr} {Qd : Hp → Prop} (few : n ≤ 1000) (hD : H1 D = none) (stay : ∀ H', L2.Same H1 H' → G H')
    (step : ∀ i x H H' (R : VK), i < n → L2.Same H1 H → Y i H x H' → (∀ H3, L2.Same H H3 → R (.bl true) H3) → g x (wipe σ vs) H' fun σ2 H2 => wipe σ2 vs = wipe σ vs ∧ te σ2 H2 R)
    (done : ∀ H', L2.Same H1 H' → H' D = some (.lst ((List.replicate n true).map V.bl)) → Qd H') :
    ∃ W : Nat → Nat → Hp → Prop, (∃ m, W 0 m (upd H1 D (.lst []))) ∧ ∀ i m H, W i m H →
      (J.stop i H ∧ Qd H) ∨ (J.go i H ∧ ∃ Nx : Hp → Prop, (∀ H', Nx H' → ∃ m', m' < m ∧ W (i + 1) m' H') ∧ ∀ x H', J.yld i H x H' → g x (wipe σ vs) H' fun σ2 H2 => wipe σ2 vs = wipe σ vs ∧ tYes σ2 H2 fun b H3 =>
        if b = true then te σ2 H3 fun y H4 => ∃ acc, H4 D = some (.lst acc) ∧ acc.length < sizeLine ∧ Nx (upd H4 D (.lst (acc ++ [y]))) else Nx H3) := by
  refine lc_it W (tt := tYes) (fun i H' => L2.Same H1 H' ∧ H' D = some (.lst ((List.replicate i true).map V.bl))) ⟨Same.new hD, upd_same⟩ (fun i H' _ h => stay H' h.1) (fun i x H H' hi h y => ?_) (fun H' h => done H' h.1 h.2)
  obtain ⟨s1, hDp⟩ := h
  refine step i x H H' _ hi s1 y fun H3 s2 => ⟨_, s2 _ _ hDp, ?_, fun c o e => ?_, ?_⟩
  · rw [List.length_map, List.length_replicate]
    exact small1000 (by omega)
  · rw [upd_ne (ne_of_none e hD)]
    exact s2 _ _ (s1 _ _ e)
  · rw [upd_same, List.replicate_succ', List.map_append]
    rfl
end
theorem all_true (n : Nat) : (List.replicate n true).all id = true := by
  induction n with
  | zero => rfl
  | succ n ih => rw [List.replicate_succ, List.all_cons, ih]; rfl
theorem Wd.abc {x : Str} (h : Wd x) {c : Nat} (hc : c ∈ x.cps.toList) : c ∈ ("abcdefghijklmnopqrstuvwxyz" : Str).cps.toList := by
  have e : ("abcdefghijklmnopqrstuvwxyz" : Str).cps.toList = (List.range 26).map (· + 97) := by decide +kernel
  obtain ⟨h1, h2⟩ := h.2.2 c hc
  rw [e]
  exact List.mem_map.mpr ⟨c - 97, List.mem_range.mpr (by omega), by omega⟩
section
variable {P : Program} {w : World} {K : PySem.W.Frag} {mg : Str → Option Value} {base : Heap}
def spIsWord : Sp := fun vs H Q _ => ∃ x : Str, vs = [.str x] ∧ Wd x ∧ ∀ H', L2.Same H H' → Q (.bl true) H'
abbrev nIsWord : List Str := ["value", "letter"]
theorem scIsWord : FnScope nIsWord ["value"] (defScope pIsWord) := ⟨rfl, rfl, rfl, by decide +kernel, rfl, by decide +kernel, by decide +kernel⟩
theorem ok_isWord {f : Addr} {fd : FuncData} (F : Fun K "is_word" "is_word" pIsWord f fd) (T : Blt mg) (Z : Blp mg) : FnOk P w K mg base CX0 1 f fd ["value"] spIsWord := by
  refine F.ok scIsWord (fun vs H Q E h => ?_) (fun cdv A outer s H vs Q E hr h => ?_)
  · obtain ⟨x, rfl, _⟩ := h
    rfl
  · obtain ⟨x, rfl, wx, k⟩ := h
    have nd := scIsWord.nd
    obtain ⟨tl, ml⟩ := Z.letters
    obtain ⟨tn, mn⟩ := Z.longest
    refine ⟨_, pss_cons (ps_if (pt_cut <| PW.pt (pw_or (pt_not (pt_val (pe_callB call_isi (by rfl) Z.isi boot_isi (pa_cons (pv 0) (pa_cons (pe_bltn (v := .ty "str") (by rfl) Z.str (by decide +kernel) rfl) pa_nil)))))
          (pw_or1 (pt_not (pt_chain op_le op_le pe_int (pe_callB call_len (by rfl) T.len PySem.boot_len (pa_cons (pv 0) pa_nil)) (pe_glob (v := .int 8) rfl mn ⟨_, rfl⟩)))))) (pss_one (ps_ret pe_bl)) pss_nil)
      (pss_one (ps_ret (pe_callB (cr_all rfl) (by rfl) Z.all (by decide +kernel) (pa_cons
        (pe_lc (own := [("letter", 1)]) (g := gName 1) (tt := tYes) (te := tOp (fun x y H Q => ∃ (c : Nat) (z : Str), x = .str ⟨#[c]⟩ ∧ y = .str z ∧ Q (.bl (decide (c ∈ z.cps.toList))) H) (tVar 1) (tC (.str "abcdefghijklmnopqrstuvwxyz"))) rfl nd (pi_str (pv 0)) (blkOk_by (own := [("letter", 1)]) (N := nIsWord) (sc := defScope pIsWord) (by decide +kernel))
          (fun _ _ _ _ _ => pg_name (i := 1) nd rfl (Or.inl rfl)) (fun _ _ _ _ _ => pts_nil) (fun _ _ _ _ _ => pe_cmpR op_in_sign (pv 1) (pe_glob rfl ml ⟨_, rfl⟩) (by rfl))) pa_nil)))), ?_⟩
    have w1 := wx.1
    have w2 := wx.2.1
    refine ⟨fun b H' => b = false ∧ H' = H, ?_, ?_⟩
    · refine ⟨_, rfl, _, _, _, _, true, rfl, .ty _, .base (.str _), kit_ty (by decide +kernel), _, rfl, ?_⟩
      refine iteF ?_
      refine ⟨_, rfl, _, x.length, rfl, ⟨by rw [sizeLine_eq]; omega, rfl⟩, _, _, rfl, rfl, _, rfl, ?_⟩
      rw [decide_eq_true (show (1 : Int) ≤ (x.length : Int) by omega)]
      refine iteT ⟨_, _, rfl, rfl, _, rfl, ?_⟩
      rw [decide_eq_true (show (x.length : Int) ≤ 8 by omega)]
      exact ⟨rfl, rfl⟩
    · rintro b H' ⟨rfl, rfl⟩
      refine iteF ?_
      refine ⟨_, rfl, _, rfl, fun D hD => ?_⟩
      refine lc_true walk_str (by show x.length ≤ 1000; omega) hD (fun _ _ => trivial) ?_ ?_
      · rintro i v H1 H2 R hi s1 ⟨rfl, c, hc, rfl⟩ kR
        have hm : c ∈ x.cps.toList := by
          rw [← Array.getElem?_toList] at hc
          exact List.mem_of_getElem? hc
        refine ⟨rfl, _, rfl, c, _, rfl, rfl, ?_⟩
        rw [decide_eq_true (wx.abc hm)]
        exact kR _ fun _ _ e => e
      · intro H1 s1 hD1
        refine ⟨D, _, rfl, SqL.of hD1, ?_⟩
        rw [all_true]
        exact k _ s1
end
end KT
set_option Elab.async false
set_option linter.all false
set_option maxRecDepth 100000
set_option maxHeartbeats 4000000
set_option Elab.async false
set_option linter.all false
set_option maxRecDepth 100000
set_option maxHeartbeats 4000000
namespace KT
open PySem L2 PyProof.Rows DTp
/-- a table of words that may be read -/
def TabW (H : Hp) (a : Addr) (ws : List Str) (f : Str → Str → Str) : Prop := ∃ kvs, Rd H a (.dT kvs) ∧ TbG (SqW ws) keyP (valW f) kvs
theorem TabW.mono {H H' : Hp} {a : Addr} {ws : List Str} {f : Str → Str → Str} (s : L2.Same H H') (h : TabW H a ws f) : TabW H' a ws f := by
  obtain ⟨kvs, h1, h2⟩ := h
  rcases h1 with e | ⟨od, e⟩
  · exact ⟨kvs, .inl (s _ _ e), h2⟩
  · exact ⟨kvs, .inr ⟨od, s _ _ e⟩, h2⟩
theorem TabW.get {H : Hp} {a b : Addr} {ws : List Str} {f : Str → Str → Str} {x y : Str} (h : TabW H a ws f) (hx : x ∈ ws) (hy : y ∈ ws) (hb : H b = some (.tup [.str x, .str y])) : DGet H a (.ref b) (some (.str (f x y))) := by
  obtain ⟨kvs, h1, h2⟩ := h
  have e : DGet H a (.ref b) (valV kvs (keyP (x, y))) := .inr ⟨kvs, keyP (x, y), b, h1, rfl, hb, rfl⟩
  rw [h2.get (i := (x, y)) ⟨hx, hy⟩] at e
  exact e
theorem str_get {ws : List Str} {i : Nat} {x : V} (h : (ws.map V.str)[i]? = some x) : ∃ y, ws[i]? = some y ∧ x = .str y := by
  rw [List.getElem?_map] at h
  cases e : ws[i]? with
  | none => rw [e] at h; cases h
  | some y => rw [e] at h; exact ⟨y, rfl, (Option.some.inj h).symm⟩
end KT
set_option Elab.async false
set_option linter.all false
set_option maxRecDepth 100000
set_option maxHeartbeats 4000000
namespace KT
open PySem L2 PyProof.Rows DTp
section
variable {P : Program} {w : World} {K : PySem.W.Frag} {mg : Str → Option Value} {base : Heap}
abbrev tGet2 (d : TE) (x y : TE) : TE := tDGet d (tTup (tCons x (tCons y tNil)))
end
end KT
set_option Elab.async false
set_option linter.all false
set_option maxRecDepth 100000
set_option maxHeartbeats 4000000
namespace KT
open PySem L2 PyProof.Rows DTp TxS
theorem added_mem {L : List Str} {k x : Str} : x ∈ added L k ↔ x ∈ L ∨ x = k := by
  unfold added
  by_cases h : k ∈ L
  · rw [if_pos h]
    exact ⟨.inl, fun q => q.elim id fun e => e ▸ h⟩
  · rw [if_neg h, List.mem_append, List.mem_singleton]
theorem added_nodup {L : List Str} {k : Str} (n : L.Nodup) : (added L k).Nodup := by
  unfold added
  by_cases h : k ∈ L
  · rw [if_pos h]; exact n
  · rw [if_neg h]
    exact List.nodup_append.mpr ⟨n, by simp, fun a ha b hb e => h (by rw [← List.mem_singleton.mp hb, ← e]; exact ha)⟩
end KT
set_option Elab.async false
set_option linter.all false
set_option maxRecDepth 100000
set_option maxHeartbeats 4000000
namespace KT
open PySem L2 PyProof.Rows DTp TxS
def flds (d l : Addr) : List (Str × V) := putF "_words" (.ref l) (putF "_table" (.ref d) [])
/-- the Kinds of f over ws stands at p -/
structure KdIn (C : Addr) (H : Hp) (p dx d l : Addr) (ws : List Str) (f : Str → Str → Str) : Prop where
  ob : H p = some (.ins C dx (flds d l))
  dc : H d = some (.dT (tabW ws f))
  ls : H l = some (.lst (ws.map V.str))
  kw : KW ws f
def KdAt (C : Addr) (H : Hp) (p : Addr) (ws : List Str) (f : Str → Str → Str) : Prop := ∃ dx d l, KdIn C H p dx d l ws f
theorem KdAt.mono {C : Addr} {H H' : Hp} {p : Addr} {ws : List Str} {f : Str → Str → Str} (s : L2.Same H H') (h : KdAt C H p ws f) : KdAt C H' p ws f := let ⟨dx, d, l, k⟩ := h; ⟨dx, d, l, s _ _ k.ob, s _ _ k.dc, s _ _ k.ls, k.kw⟩
/-- what the walk asks of the class -/
structure KTx (K : PySem.W.Frag) (mg : Str → Option Value) (C : Addr) : Prop where
  cl : L2.Cls K C
  nT : NoAttr K C "_table"
  nW : NoAttr K C "_words"
  mgC : mg "Kinds" = some (.ref C)
  ha : PySem.W.findIn K (.ref C) "__class__" = some (some (.builtin "object.__class__"))
  hn : PySem.W.specialIn K (.builtin "object.__class__") "__get__" = some (some (.builtin "getset_descriptor.__get__"))
  htk : PySem.W.takesIn K (.builtin "object.__class__") = some true
  hm : PySem.W.mroIn K C (.type "object") = some true
  own : PySem.W.kitOne K (.ref C) (.ref C) = some true
theorem KTx.ty {K : PySem.W.Frag} {mg : Str → Option Value} {C p dx : Addr} {fs : List (Str × V)} {H : Hp} (T : KTx K mg C) (h : H p = some (.ins C dx fs)) : TyX K H (.ref p) (.ref C) := .base (.ins h T.cl T.ha T.hn T.htk T.hm)
/-- a method as its callers know it -/
structure Mee (P : Program) (w : World) (K : PySem.W.Frag) (mg : Str → Option Value) (base : Heap) (C : Addr) (k : Nat) (m : Str) (ps : List Str) (sp : Sp) : Prop where
  ex : ∃ (f : Addr) (fd : FuncData), Meth K C m f ∧ FnOk P w K mg base CX0 k f fd ps sp ∧ Binds K fd ps []
section
variable {X : Cx} {k j : Nat} {m : Str} {ps : List Str} {sp : Sp} {apos pos : Pos} {o e : Expr} {es : List Expr} {to : TE} {t : TA} {C : Addr}
theorem pe_m0 {pl : Sem Bool} (M : Mee X.prog X.w X.K X.mg X.base C k m ps sp) (c : L2.Cls X.K C) (hr : Room j X.A) (he : PE X o to) (hkj : k ≤ j := by decide)
    (ht : eval (.Call (.Attribute o m apos) [] [] pos) X.env = (do
      let ov ← eval o X.env
      standAt apos.atName
      let (f, first) ← holding [ov] (getMethod ov m pl)
      callWith pos f first (backTo pos (starEach [] X.env)) (backToKw pos (keywordEach [] X.env))) := by rfl) :
    PE X (.Call (.Attribute o m apos) [] [] pos) (tMeth C m sp [] E0 to tNil) := by
  obtain ⟨f, fd, h1, h2, h3⟩ := M.ex
  exact pe_meth0 he c h1 h2 (hr.mono hkj) h3 .nil pass0 ht
end
end KT
set_option Elab.async false
set_option linter.all false
set_option maxRecDepth 100000
set_option maxHeartbeats 4000000
set_option Elab.async false
set_option linter.all false
set_option maxRecDepth 100000
set_option maxHeartbeats 4000000
namespace KT
open PySem L2
def pw (f : Str → Str → Str) (x : Str) : Nat → Str
  | 0 => x
  | n + 1 => f (pw f x n) x
section
variable {ws : List Str} {f : Str → Str → Str} {x : Str}
/-- L different powers, then the one at a again -/
structure Pws (f : Str → Str → Str) (x : Str) (L a : Nat) : Prop where
  lt : a < L
  l4 : L ≤ 4
  eq : pw f x L = pw f x a
  dis : ∀ i j, i < j → j < L → pw f x i ≠ pw f x j
theorem Pws.per {L a : Nat} (h : Pws f x L a) : ∀ n, pw f x (a + n + (L - a)) = pw f x (a + n)
  | 0 => by
    have e : a + 0 + (L - a) = L := by have := h.lt; omega
    rw [e]; exact h.eq
  | n + 1 => by
    have e : a + (n + 1) + (L - a) = (a + n + (L - a)) + 1 := by omega
    rw [e]
    show f (pw f x (a + n + (L - a))) x = f (pw f x (a + n)) x
    rw [h.per n]
theorem Pws.mul {L a : Nat} (h : Pws f x L a) (n : Nat) : ∀ m, pw f x (a + n + m * (L - a)) = pw f x (a + n)
  | 0 => by rw [Nat.zero_mul, Nat.add_zero]
  | m + 1 => by
    have e : a + n + (m + 1) * (L - a) = a + (n + m * (L - a)) + (L - a) := by rw [Nat.succ_mul]; omega
    rw [e, h.per, ← Nat.add_assoc, h.mul n m]
/-- equal powers below L -/
theorem Pws.inj {L a i j : Nat} (h : Pws f x L a) (hi : i < L) (hj : j < L) (e : pw f x i = pw f x j) : i = j := by
  rcases Nat.lt_trichotomy i j with z | z | z
  · exact absurd e (h.dis i j z hj)
  · exact z
  · exact absurd e.symm (h.dis j i z hi)
/-- the least such -/
def Least (p : Nat → Prop) (m : Nat) : Prop := p m ∧ ∀ i, i < m → ¬ p i
theorem Least.uniq {p : Nat → Prop} {m n : Nat} (h : Least p m) (k : Least p n) : m = n := by
  rcases Nat.lt_trichotomy m n with z | z | z
  · exact absurd h.1 (k.2 m z)
  · exact z
  · exact absurd k.1 (h.2 n z)
end
end KT
set_option Elab.async false
set_option linter.all false
set_option maxRecDepth 100000
set_option maxHeartbeats 4000000
namespace KT
open PySem L2 PyProof.Rows DTp TxS
section
variable {P : Program} {w : World} {K : PySem.W.Frag} {mg : Str → Option Value} {base : Heap} {C : Addr}
/-- the Kinds at x, all of it new since H -/
def KdNew (C : Addr) (H H' : Hp) (x : Addr) (ws : List Str) (f : Str → Str → Str) : Prop := ∃ dx d l, KdIn C H' x dx d l ws f ∧ H x = none ∧ H dx = none ∧ H d = none ∧ H l = none
theorem KdNew.at {C : Addr} {H H' : Hp} {x : Addr} {ws : List Str} {f : Str → Str → Str} (h : KdNew C H H' x ws f) : KdAt C H' x ws f := let ⟨dx, d, l, k, _⟩ := h; ⟨dx, d, l, k⟩
end
end KT
set_option Elab.async false
set_option linter.all false
set_option maxRecDepth 100000
set_option maxHeartbeats 4000000
namespace KT
open PySem L2 PyProof.Rows DTp TxS
section
variable {P : Program} {w : World} {K : PySem.W.Frag} {mg : Str → Option Value} {base : Heap} {C : Addr}
theorem KW.turn {ws : List Str} {f : Str → Str → Str} (k : KW ws f) : KW ws fun x y => f y x := ⟨k.asc, k.pos, k.few, k.wd, fun x y hx hy => k.cl y x hy hx, fun x y z hx hy hz => (k.as z y x hz hy hx).symm⟩
def sqs (ws : List Str) (f : Str → Str → Str) : List Str := ws.filter fun x => decide (f x x = x)
end
end KT
set_option Elab.async false
set_option linter.all false
set_option maxRecDepth 100000
set_option maxHeartbeats 4000000
namespace KT
open PySem L2 PyProof.Rows DTp TxS
def Flat2 (v w : V) : Prop := (∃ x, v = .str x ∧ w = .str x) ∨ (∃ i, v = .int i ∧ w = .int i) ∨ (∃ b, v = .bl b ∧ w = .bl b) ∨ (v = .non ∧ w = .non)
/-- both are read as the same, at most n deep -/
def Alike : Nat → Hp → V → V → Prop
  | 0, _, _, _ => False
  | n + 1, H, v, w => Flat2 v w ∨ (∃ (a b : Addr) (xs ys : List V), v = .ref a ∧ w = .ref b ∧ H a = some (.lst xs) ∧ H b = some (.lst ys) ∧ xs.length ≤ 100 ∧ Paired (Alike n H) xs ys) ∨
    (∃ (a b : Addr) (xs ys : List V), v = .ref a ∧ w = .ref b ∧ H a = some (.tup xs) ∧ H b = some (.tup ys) ∧ xs.length ≤ 100 ∧ Paired (Alike n H) xs ys) ∨
    (∃ (a b : Addr) (ps : List (Str × Str)) (f : Str → Str → Str), 3 ≤ n ∧ v = .ref a ∧ w = .ref b ∧ H a = some (.dT (ps.map fun p => (keyP p, valW f p))) ∧ H b = some (.dT (ps.map fun p => (keyP p, valW f p))) ∧ ps.Nodup ∧ ps.length ≤ 100) ∨
    ∃ (a b : Addr) (kvs : List (Key × V)) (ks : List Str), 2 ≤ n ∧ v = .ref a ∧ w = .ref b ∧ H a = some (.dK kvs) ∧ H b = some (.dK kvs) ∧ kvs.map (·.1) = ks.map Sum.inr ∧ ks.Nodup ∧ (∀ p ∈ kvs, Flat2 p.2 p.2) ∧ ks.length ≤ 100
theorem Alike.mono {H H' : Hp} (s : L2.Same H H') : ∀ {n : Nat} {v w : V}, Alike n H v w → Alike n H' v w
  | 0, _, _, h => h
  | n + 1, _, _, h => by
    rcases h with h | ⟨a, b, xs, ys, e1, e2, h1, h2, l, p⟩ | ⟨a, b, xs, ys, e1, e2, h1, h2, l, p⟩ | ⟨a, b, ps, f, n3, e1, e2, h1, h2, nd, l⟩ | ⟨a, b, kvs, ks, n2, e1, e2, h1, h2, ek, nd, fl, l⟩
    · exact .inl h
    · exact .inr (.inl ⟨a, b, xs, ys, e1, e2, s _ _ h1, s _ _ h2, l, Paired.mapP p fun _ _ q => Alike.mono s q⟩)
    · exact .inr (.inr (.inl ⟨a, b, xs, ys, e1, e2, s _ _ h1, s _ _ h2, l, Paired.mapP p fun _ _ q => Alike.mono s q⟩))
    · exact .inr (.inr (.inr (.inl ⟨a, b, ps, f, n3, e1, e2, s _ _ h1, s _ _ h2, nd, l⟩)))
    · exact .inr (.inr (.inr (.inr ⟨a, b, kvs, ks, n2, e1, e2, s _ _ h1, s _ _ h2, ek, nd, fl, l⟩)))
theorem paired_nth {α β : Type} {R : α → β → Prop} : ∀ {xs : List α} {ys : List β}, Paired R xs ys → ∀ (i : Nat) (x : α) (y : β), xs[i]? = some x → ys[i]? = some y → R x y
  | _, _, .nil, i, x, y, h, _ => by cases i <;> cases h
  | _, _, .cons r t, i, x, y, h, k => by
    cases i with
    | zero => cases h; cases k; exact r
    | succ i => exact paired_nth t i x y h k
def tOder (t1 t2 : TE) : TE := fun σ H Q => t1 σ H Q ∨ t2 σ H Q
theorem PE.oder {X : Cx} {e : Expr} {t1 t2 : TE} (a : PE X e t1) (b : PE X e t2) : PE X e (tOder t1 t2) := ⟨fun pins s σ H Q I h => h.elim (a.run pins s σ H Q I) (b.run pins s σ H Q I)⟩
def spExact (n : Nat) : Sp := fun vs H Q _ => ∃ v w : V, vs = [v, w] ∧ Alike n H v w ∧ ∀ H', L2.Same H H' → Q (.bl true) H'
abbrev nExact : List Str := ["_law_mine", "_law_theirs", "_law_alike", "_law_a", "_law_b", "_law_key"]
theorem scExact : FnScope nExact ["_law_mine", "_law_theirs"] (defScope sExact) := ⟨rfl, rfl, rfl, by decide +kernel, rfl, by decide +kernel, by decide +kernel⟩
theorem walk_zipT {K : PySem.W.Frag} {a b : Addr} {xs ys : List V} {n : Nat} (hn : n = min xs.length ys.length) : Walk (RZ.ItzT K a b) n (fun H => SqT K H a xs ∧ SqT K H b ys) (YPair (fun i => xs[i]?) (fun i => ys[i]?)) := by
  subst hn
  refine ⟨fun i _ hi q => ?_, fun _ q => ⟨xs, ys, q.1, q.2, by omega⟩, fun i H v H' _ q y => ?_⟩
  · have h1 : i < xs.length := by omega
    have h2 : i < ys.length := by omega
    exact ⟨xs, ys, xs[i], ys[i], q.1, q.2, by simp [h1], by simp [h2]⟩
  · obtain ⟨T, x, z, h1, h2, h3, h4, h5⟩ := y
    exact ⟨T, x, z, h1, h2, h3, h4 xs q.1, h5 ys q.2⟩
theorem kit2F {K : PySem.W.Frag} {t : String} (h1 : kitB t "list" = some false) (h2 : kitB t "tuple" = some false) : PySem.W.kitAny K (.type t) [.type "list", .type "tuple"] = some false :=
  kitAny_cons (kit_ty h1) (fun _ => kitAny_cons (kit_ty h2) (fun _ => kitAny_nil) fun e => by cases e) fun e => by cases e
theorem kit2L {K : PySem.W.Frag} : PySem.W.kitAny K (.type "list") [.type "list", .type "tuple"] = some true :=
  kitAny_cons (b := true) (kit_ty (by decide +kernel)) (fun e => by cases e) fun _ => rfl
theorem kit2T {K : PySem.W.Frag} : PySem.W.kitAny K (.type "tuple") [.type "list", .type "tuple"] = some true :=
  kitAny_cons (b := false) (kit_ty (by decide +kernel)) (fun _ => kitAny_cons (b := true) (kit_ty (by decide +kernel)) (fun e => by cases e) fun _ => rfl) fun e => by cases e
theorem two_cls : Paired ClsV [.ty "list", .ty "tuple"] [.type "list", .type "tuple"] := .cons (.ty _) (.cons (.ty _) .nil)
theorem bl_eq (b : Bool) : decide (V.bl b = V.bl b) = true := decide_eq_true rfl
section
variable {P : Program} {w : World} {K : PySem.W.Frag} {mg : Str → Option Value} {base : Heap}
theorem step_exact {f : Addr} {fd : FuncData} (F : Fun K "_law_exact" "_law_exact" sExact f fd) (B : Blt mg) (Z : Blp mg) (hz : mg "zip" = none) {n : Nat} (C : Cee P w K mg base (n + 1) "_law_exact" ["_law_mine", "_law_theirs"] (spExact n)) : FnOk P w K mg base CX0 (n + 2) f fd ["_law_mine", "_law_theirs"] (spExact (n + 1)) := by
  refine F.ok scExact (fun vs H Q E h => ?_) (fun cdv A outer s H vs Q E hr h => ?_)
  · obtain ⟨v, w2, rfl, _⟩ := h
    rfl
  · obtain ⟨v, w2, rfl, al, k⟩ := h
    have nd := scExact.nd
    refine ⟨_, pss_cons (ps_if (pt_val (pe_callB call_isiT (by rfl) Z.isi boot_isi (pa_cons (pv 0) (pa_cons (pe_tup (pa_cons (pe_bltn (v := .ty "list") (by rfl) Z.list (by decide +kernel) rfl) (pa_cons (pe_bltn (v := .ty "tuple") (by rfl) Z.tuple (by decide +kernel) rfl) pa_nil))) pa_nil))))
        (pss_cons (ps_set (i := 2) nd rfl (Or.inl rfl) (pe_and (pe_cmpR op_eq (pe_callB call_isi (by rfl) Z.isi boot_isi (pa_cons (pv 1) (pa_cons (pe_bltn (v := .ty "list") (by rfl) Z.list (by decide +kernel) rfl) pa_nil))) (pe_callB call_isi (by rfl) Z.isi boot_isi (pa_cons (pv 0) (pa_cons (pe_bltn (v := .ty "list") (by rfl) Z.list (by decide +kernel) rfl) pa_nil))) (nomark _)) (pe_one (pe_cmpR op_eq (pe_callB call_isi (by rfl) Z.isi boot_isi (pa_cons (pv 1) (pa_cons (pe_bltn (v := .ty "tuple") (by rfl) Z.tuple (by decide +kernel) rfl) pa_nil))) (pe_callB call_isi (by rfl) Z.isi boot_isi (pa_cons (pv 0) (pa_cons (pe_bltn (v := .ty "tuple") (by rfl) Z.tuple (by decide +kernel) rfl) pa_nil))) (nomark _)))))
        (pss_one (ps_ret (pe_and (pv 2) (pe_and (pe_cmpR op_eq (pe_callB call_len_seq (by rfl) B.len PySem.boot_len (pa_cons (pv 0) pa_nil)) (pe_callB call_len_seq (by rfl) B.len PySem.boot_len (pa_cons (pv 1) pa_nil)) (nomark _)) (pe_one (pe_callB (cr_all rfl) (by rfl) Z.all (by decide +kernel) (pa_cons
          (pe_lc (own := [("_law_a", 3), ("_law_b", 4)]) (g := gXY K 3 4) (tt := tYes) (te := tCall (spExact n) [] E0 (tCons (tVar 3) (tCons (tVar 4) tNil))) rfl nd (RZ.pi_zipA (by rfl) hz (pa_cons (pv 0) (pa_cons (pv 1) pa_nil))) (blkOk_by (own := [("_law_a", 3), ("_law_b", 4)]) (N := nExact) (sc := defScope sExact) (by decide +kernel))
            (fun _ _ _ _ _ => pg_tup rfl (pgs_cons (pg_name (i := 3) nd rfl (Or.inl rfl)) (pgs_cons (pg_name (i := 4) nd rfl (Or.inl rfl)) pgs_nil))) (fun _ _ _ _ _ => pts_nil) (fun _ _ _ _ _ => pe_c C hr rfl (pa_cons (pv 3) (pa_cons (pv 4) pa_nil)) (Nat.le_refl _))) pa_nil)))))))) pss_nil)
      (pss_cons (ps_if (pt_val (pe_callB call_isi (by rfl) Z.isi boot_isi (pa_cons (pv 0) (pa_cons (pe_bltn (v := .ty "dict") (by rfl) Z.dict (by decide +kernel) rfl) pa_nil))))
        (pss_cons (ps_set (i := 2) nd rfl (Or.inl rfl) (pe_and (pe_callB call_isi (by rfl) Z.isi boot_isi (pa_cons (pv 1) (pa_cons (pe_bltn (v := .ty "dict") (by rfl) Z.dict (by decide +kernel) rfl) pa_nil))) (pe_one (pe_c C hr rfl (pa_cons (PE.oder (pe_callTy (call_list_dT rfl) (by rfl) Z.list (by decide +kernel) (pa_cons (pv 0) pa_nil)) (pe_callTy (call_list_dK rfl) (by rfl) Z.list (by decide +kernel) (pa_cons (pv 0) pa_nil))) (pa_cons (PE.oder (pe_callTy (call_list_dT rfl) (by rfl) Z.list (by decide +kernel) (pa_cons (pv 1) pa_nil)) (pe_callTy (call_list_dK rfl) (by rfl) Z.list (by decide +kernel) (pa_cons (pv 1) pa_nil))) pa_nil)) (Nat.le_refl _)))))
        (pss_one (ps_ret (pe_and (pv 2) (pe_one (pe_callB (cr_all rfl) (by rfl) Z.all (by decide +kernel) (pa_cons (pe_lock
          (pe_lc (own := [("_law_key", 5)]) (g := gName 5) (tt := tYes) (te := tCall (spExact n) [] E0 (tCons (tDGet (tVar 0) (tVar 5)) (tCons (tDGet (tVar 1) (tVar 5)) tNil))) rfl nd (pi_keys (pv 0)) (blkOk_by (own := [("_law_key", 5)]) (N := nExact) (sc := defScope sExact) (by decide +kernel))
            (fun _ _ _ _ _ => pg_name (i := 5) nd rfl (Or.inl rfl)) (fun _ _ _ _ _ => pts_nil) (fun _ _ _ _ _ => pe_c C hr rfl (pa_cons (pe_dget (hu_of hr) (pv 0) (pv 5) (fun _ _ => rfl)) (pa_cons (pe_dget (hu_of hr) (pv 1) (pv 5) (fun _ _ => rfl)) pa_nil)) (Nat.le_refl _)))) pa_nil))))))) pss_nil)
      (pss_cons (ps_set (i := 2) nd rfl (Or.inl rfl) (pe_cmpR op_eq (pe_callB call_isi (by rfl) Z.isi boot_isi (pa_cons (pv 0) (pa_cons (pe_bltn (v := .ty "int") (by rfl) B.int boot_int rfl) pa_nil))) (pe_callB call_isi (by rfl) Z.isi boot_isi (pa_cons (pv 1) (pa_cons (pe_bltn (v := .ty "int") (by rfl) B.int boot_int rfl) pa_nil))) (nomark _)))
      (pss_one (ps_ret (pe_and (pv 2) (pe_and (pe_cmpR op_eq (pe_callB call_isi (by rfl) Z.isi boot_isi (pa_cons (pv 0) (pa_cons (pe_bltn (v := .ty "bool") (by rfl) Z.bool (by decide +kernel) rfl) pa_nil))) (pe_callB call_isi (by rfl) Z.isi boot_isi (pa_cons (pv 1) (pa_cons (pe_bltn (v := .ty "bool") (by rfl) Z.bool (by decide +kernel) rfl) pa_nil))) (nomark _)) (pe_one (pe_cmpR op_eq (pv 0) (pv 1) (nomark _))))))))), ?_⟩
    rcases al with (⟨x, rfl, rfl⟩ | ⟨i, rfl, rfl⟩ | ⟨b, rfl, rfl⟩ | ⟨rfl, rfl⟩) | ⟨a, b, xs, ys, rfl, rfl, ha, hb, hl, pr⟩ | ⟨a, b, xs, ys, rfl, rfl, ha, hb, hl, pr⟩ | ⟨a, b, ps, f, n3, rfl, rfl, ha, hb, ndp, hl⟩ | ⟨a, b, kvs, ks, n2, rfl, rfl, ha, hb, ek, ndk, fl, hl⟩
    · skip
      refine ⟨_, rfl, (by show 2 ≤ sizeLine; decide), fun tp htp => ?_⟩
      have s1 := Same.new (H := H) (o := .tup [.ty "list", .ty "tuple"]) htp
      have etp : upd H tp (.tup [.ty "list", .ty "tuple"]) tp = _ := upd_same
      generalize upd H tp (.tup [.ty "list", .ty "tuple"]) = G at s1 etp ⊢
      refine ⟨_, tp, _, _, _, false, rfl, etp, two_cls, .base (.str _), kit2F (by decide +kernel) (by decide +kernel), _, rfl, iteF ?_⟩
      refine ⟨_, rfl, _, _, _, _, false, rfl, .ty _, .base (.str _), kit_ty (by decide +kernel), _, rfl, iteF ?_⟩
      refine ⟨_, rfl, _, _, _, _, false, rfl, .ty _, .base (.str _), kit_ty (by decide +kernel), _, rfl, _, _, _, _, false, rfl, .ty _, .base (.str _), kit_ty (by decide +kernel), rfl, ?_⟩
      rw [bl_eq]
      refine at_name (σ' := [some (.str x), some (.str x), some (.bl true), none, none, none]) rfl ?_
      refine ⟨_, rfl, _, rfl, iteT ?_⟩
      refine ⟨_, rfl, _, _, _, _, false, rfl, .ty _, .base (.str _), kit_ty (by decide +kernel), _, rfl, _, _, _, _, false, rfl, .ty _, .base (.str _), kit_ty (by decide +kernel), rfl, ?_⟩
      rw [bl_eq]
      refine ⟨_, rfl, iteT ⟨_, rfl, _, rfl, rfl, ?_⟩⟩
      rw [decide_eq_true rfl]
      exact k _ s1
    · skip
      refine ⟨_, rfl, (by show 2 ≤ sizeLine; decide), fun tp htp => ?_⟩
      have s1 := Same.new (H := H) (o := .tup [.ty "list", .ty "tuple"]) htp
      have etp : upd H tp (.tup [.ty "list", .ty "tuple"]) tp = _ := upd_same
      generalize upd H tp (.tup [.ty "list", .ty "tuple"]) = G at s1 etp ⊢
      refine ⟨_, tp, _, _, _, false, rfl, etp, two_cls, .base (.int _), kit2F (by decide +kernel) (by decide +kernel), _, rfl, iteF ?_⟩
      refine ⟨_, rfl, _, _, _, _, false, rfl, .ty _, .base (.int _), kit_ty (by decide +kernel), _, rfl, iteF ?_⟩
      refine ⟨_, rfl, _, _, _, _, true, rfl, .ty _, .base (.int _), kit_ty (by decide +kernel), _, rfl, _, _, _, _, true, rfl, .ty _, .base (.int _), kit_ty (by decide +kernel), rfl, ?_⟩
      rw [bl_eq]
      refine at_name (σ' := [some (.int i), some (.int i), some (.bl true), none, none, none]) rfl ?_
      refine ⟨_, rfl, _, rfl, iteT ?_⟩
      refine ⟨_, rfl, _, _, _, _, false, rfl, .ty _, .base (.int _), kit_ty (by decide +kernel), _, rfl, _, _, _, _, false, rfl, .ty _, .base (.int _), kit_ty (by decide +kernel), rfl, ?_⟩
      rw [bl_eq]
      refine ⟨_, rfl, iteT ⟨_, rfl, _, rfl, rfl, ?_⟩⟩
      rw [decide_eq_true rfl]
      exact k _ s1
    · skip
      refine ⟨_, rfl, (by show 2 ≤ sizeLine; decide), fun tp htp => ?_⟩
      have s1 := Same.new (H := H) (o := .tup [.ty "list", .ty "tuple"]) htp
      have etp : upd H tp (.tup [.ty "list", .ty "tuple"]) tp = _ := upd_same
      generalize upd H tp (.tup [.ty "list", .ty "tuple"]) = G at s1 etp ⊢
      refine ⟨_, tp, _, _, _, false, rfl, etp, two_cls, .base (.bl _), kit2F (by decide +kernel) (by decide +kernel), _, rfl, iteF ?_⟩
      refine ⟨_, rfl, _, _, _, _, false, rfl, .ty _, .base (.bl _), kit_ty (by decide +kernel), _, rfl, iteF ?_⟩
      refine ⟨_, rfl, _, _, _, _, true, rfl, .ty _, .base (.bl _), kit_ty (by decide +kernel), _, rfl, _, _, _, _, true, rfl, .ty _, .base (.bl _), kit_ty (by decide +kernel), rfl, ?_⟩
      rw [bl_eq]
      refine at_name (σ' := [some (.bl b), some (.bl b), some (.bl true), none, none, none]) rfl ?_
      refine ⟨_, rfl, _, rfl, iteT ?_⟩
      refine ⟨_, rfl, _, _, _, _, true, rfl, .ty _, .base (.bl _), kit_ty (by decide +kernel), _, rfl, _, _, _, _, true, rfl, .ty _, .base (.bl _), kit_ty (by decide +kernel), rfl, ?_⟩
      rw [bl_eq]
      refine ⟨_, rfl, iteT ⟨_, rfl, _, rfl, rfl, ?_⟩⟩
      rw [decide_eq_true rfl]
      exact k _ s1
    · skip
      refine ⟨_, rfl, (by show 2 ≤ sizeLine; decide), fun tp htp => ?_⟩
      have s1 := Same.new (H := H) (o := .tup [.ty "list", .ty "tuple"]) htp
      have etp : upd H tp (.tup [.ty "list", .ty "tuple"]) tp = _ := upd_same
      generalize upd H tp (.tup [.ty "list", .ty "tuple"]) = G at s1 etp ⊢
      refine ⟨_, tp, _, _, _, false, rfl, etp, two_cls, .base .non, kit2F (by decide +kernel) (by decide +kernel), _, rfl, iteF ?_⟩
      refine ⟨_, rfl, _, _, _, _, false, rfl, .ty _, .base .non, kit_ty (by decide +kernel), _, rfl, iteF ?_⟩
      refine ⟨_, rfl, _, _, _, _, false, rfl, .ty _, .base .non, kit_ty (by decide +kernel), _, rfl, _, _, _, _, false, rfl, .ty _, .base .non, kit_ty (by decide +kernel), rfl, ?_⟩
      rw [bl_eq]
      refine at_name (σ' := [some .non, some .non, some (.bl true), none, none, none]) rfl ?_
      refine ⟨_, rfl, _, rfl, iteT ?_⟩
      refine ⟨_, rfl, _, _, _, _, false, rfl, .ty _, .base .non, kit_ty (by decide +kernel), _, rfl, _, _, _, _, false, rfl, .ty _, .base .non, kit_ty (by decide +kernel), rfl, ?_⟩
      rw [bl_eq]
      refine ⟨_, rfl, iteT ⟨_, rfl, _, rfl, rfl, ?_⟩⟩
      rw [decide_eq_true rfl]
      exact k _ s1
    · skip
      refine ⟨_, rfl, (by show 2 ≤ sizeLine; decide), fun tp htp => ?_⟩
      have s1 := Same.new (H := H) (o := .tup [.ty "list", .ty "tuple"]) htp
      have etp : upd H tp (.tup [.ty "list", .ty "tuple"]) tp = _ := upd_same
      generalize upd H tp (.tup [.ty "list", .ty "tuple"]) = G at s1 etp ⊢
      refine ⟨_, tp, _, _, _, true, rfl, etp, two_cls, .base (.lst (s1 _ _ ha)), kit2L, _, rfl, iteT ?_⟩
      refine ⟨_, rfl, _, _, _, _, true, rfl, .ty _, .base (.lst (s1 _ _ hb)), kit_ty (by decide +kernel), _, rfl, _, _, _, _, true, rfl, .ty _, .base (.lst (s1 _ _ ha)), kit_ty (by decide +kernel), rfl, ?_⟩
      rw [bl_eq]
      refine ⟨_, rfl, iteT ?_⟩
      refine ⟨_, rfl, _, _, _, _, false, rfl, .ty _, .base (.lst (s1 _ _ hb)), kit_ty (by decide +kernel), _, rfl, _, _, _, _, false, rfl, .ty _, .base (.lst (s1 _ _ ha)), kit_ty (by decide +kernel), rfl, ?_⟩
      rw [bl_eq]
      refine at_name (σ' := [some (.ref a), some (.ref b), some (.bl true), none, none, none]) rfl ?_
      refine ⟨_, rfl, _, rfl, iteT ?_⟩
      refine ⟨_, rfl, a, _, rfl, .inl (SqL.of (s1 _ _ ha)), _, rfl, b, _, rfl, .inl (SqL.of (s1 _ _ hb)), rfl, ?_⟩
      have hlen := Paired.length pr
      rw [hlen, decide_eq_true rfl]
      refine ⟨_, rfl, iteT ?_⟩
      refine ⟨_, rfl, _, rfl, a, b, xs, ys, rfl, .inl ⟨SqL.of (s1 _ _ ha), SqL.of (s1 _ _ hb), fun D hD => ?_⟩⟩
      refine lc_true (walk_zip (K := K) (a := a) (b := b) (xs := xs) (ys := ys) rfl) (by omega) hD (fun H' s => ⟨SqL.of (s _ _ (s1 _ _ ha)), SqL.of (s _ _ (s1 _ _ hb))⟩) ?_ ?_
      · rintro i v H1 H2 R hi s2 ⟨T, x, y, rfl, hT, rfl, hx, hy⟩ kR
        have s3 := Same.new (H := H1) (o := .tup [x, y]) hT
        have alk : Alike n (upd H1 T (.tup [x, y])) x y := ((paired_nth pr i x y hx hy).mono s1 |>.mono s2).mono s3
        refine ⟨T, _, rfl, SqT.of upd_same, rfl, _, _, rfl, at_name (σ' := [some (.ref a), some (.ref b), some (.bl true), some x, none, none]) rfl ⟨_, _, rfl, at_name (σ' := [some (.ref a), some (.ref b), some (.bl true), some x, some y, none]) rfl ⟨rfl, rfl, ?_⟩⟩⟩
        exact ⟨_, rfl, _, rfl, x, y, rfl, alk, fun H3 s4 => kR _ fun c o e => s4 _ _ (s3 _ _ e)⟩
      · intro H1 s2 hD1
        refine ⟨D, _, rfl, SqL.of hD1, ?_⟩
        rw [all_true]
        exact k _ fun c o e => s2 _ _ (s1 _ _ e)
    · skip
      refine ⟨_, rfl, (by show 2 ≤ sizeLine; decide), fun tp htp => ?_⟩
      have s1 := Same.new (H := H) (o := .tup [.ty "list", .ty "tuple"]) htp
      have etp : upd H tp (.tup [.ty "list", .ty "tuple"]) tp = _ := upd_same
      generalize upd H tp (.tup [.ty "list", .ty "tuple"]) = G at s1 etp ⊢
      refine ⟨_, tp, _, _, _, true, rfl, etp, two_cls, .base (.tup (s1 _ _ ha)), kit2T, _, rfl, iteT ?_⟩
      refine ⟨_, rfl, _, _, _, _, false, rfl, .ty _, .base (.tup (s1 _ _ hb)), kit_ty (by decide +kernel), _, rfl, _, _, _, _, false, rfl, .ty _, .base (.tup (s1 _ _ ha)), kit_ty (by decide +kernel), rfl, ?_⟩
      rw [bl_eq]
      refine ⟨_, rfl, iteT ?_⟩
      refine ⟨_, rfl, _, _, _, _, true, rfl, .ty _, .base (.tup (s1 _ _ hb)), kit_ty (by decide +kernel), _, rfl, _, _, _, _, true, rfl, .ty _, .base (.tup (s1 _ _ ha)), kit_ty (by decide +kernel), rfl, ?_⟩
      rw [bl_eq]
      refine at_name (σ' := [some (.ref a), some (.ref b), some (.bl true), none, none, none]) rfl ?_
      refine ⟨_, rfl, _, rfl, iteT ?_⟩
      refine ⟨_, rfl, a, _, rfl, .inr (SqT.of (s1 _ _ ha)), _, rfl, b, _, rfl, .inr (SqT.of (s1 _ _ hb)), rfl, ?_⟩
      have hlen := Paired.length pr
      rw [hlen, decide_eq_true rfl]
      refine ⟨_, rfl, iteT ?_⟩
      refine ⟨_, rfl, _, rfl, a, b, xs, ys, rfl, .inr ⟨SqT.of (s1 _ _ ha), SqT.of (s1 _ _ hb), fun D hD => ?_⟩⟩
      refine lc_true (walk_zipT (K := K) (a := a) (b := b) (xs := xs) (ys := ys) rfl) (by omega) hD (fun H' s => ⟨SqT.of (s _ _ (s1 _ _ ha)), SqT.of (s _ _ (s1 _ _ hb))⟩) ?_ ?_
      · rintro i v H1 H2 R hi s2 ⟨T, x, y, rfl, hT, rfl, hx, hy⟩ kR
        have s3 := Same.new (H := H1) (o := .tup [x, y]) hT
        have alk : Alike n (upd H1 T (.tup [x, y])) x y := ((paired_nth pr i x y hx hy).mono s1 |>.mono s2).mono s3
        refine ⟨T, _, rfl, SqT.of upd_same, rfl, _, _, rfl, at_name (σ' := [some (.ref a), some (.ref b), some (.bl true), some x, none, none]) rfl ⟨_, _, rfl, at_name (σ' := [some (.ref a), some (.ref b), some (.bl true), some x, some y, none]) rfl ⟨rfl, rfl, ?_⟩⟩⟩
        exact ⟨_, rfl, _, rfl, x, y, rfl, alk, fun H3 s4 => kR _ fun c o e => s4 _ _ (s3 _ _ e)⟩
      · intro H1 s2 hD1
        refine ⟨D, _, rfl, SqL.of hD1, ?_⟩
        rw [all_true]
        exact k _ fun c o e => s2 _ _ (s1 _ _ e)
    · skip
      refine ⟨_, rfl, (by show 2 ≤ sizeLine; decide), fun tp htp => ?_⟩
      have s1 := Same.new (H := H) (o := .tup [.ty "list", .ty "tuple"]) htp
      have etp : upd H tp (.tup [.ty "list", .ty "tuple"]) tp = _ := upd_same
      generalize upd H tp (.tup [.ty "list", .ty "tuple"]) = G at s1 etp ⊢
      refine ⟨_, tp, _, _, _, false, rfl, etp, two_cls, .base (.dT (s1 _ _ ha)), kit2F (by decide +kernel) (by decide +kernel), _, rfl, iteF ?_⟩
      refine ⟨_, rfl, _, _, _, _, true, rfl, .ty _, .base (.dT (s1 _ _ ha)), kit_ty (by decide +kernel), _, rfl, iteT ?_⟩
      refine ⟨_, rfl, _, _, _, _, true, rfl, .ty _, .base (.dT (s1 _ _ hb)), kit_ty (by decide +kernel), _, rfl, iteT ?_⟩
      have ndk : ((ps.map fun p => (keyP p, valW f p)).map (·.1)).Nodup := by
        rw [List.map_map]
        exact List.Pairwise.map _ (fun a b hab e => hab (keyP_inj a b e)) ndp
      have hla : (ps.map fun p => (keyP p, valW f p)).length ≤ 100 := by rw [List.length_map]; exact hl
      have ha0 := s1 _ _ ha
      have hb0 := s1 _ _ hb
      obtain ⟨kvs, ek⟩ : ∃ z, z = ps.map fun p => (keyP p, valW f p) := ⟨_, rfl⟩
      rw [← ek] at ndk hla ha0 hb0
      refine .inl ⟨_, rfl, a, kvs, rfl, .inl ha0, fun l1 bs1 hl1 ik1 => ?_⟩
      have c1 := Same.new (H := G) (o := .lst (bs1.map V.ref)) hl1
      have c2 : upd G l1 (.lst (bs1.map V.ref)) l1 = _ := upd_same
      have ik1' : Paired (fun p b => (upd G l1 (.lst (bs1.map V.ref))) b = some (.tup (p.1.map kV))) kvs bs1 := Paired.mapP ik1 fun _ _ q => c1 _ _ q
      generalize upd G l1 (.lst (bs1.map V.ref)) = G1 at c1 c2 ik1' ⊢
      refine .inl ⟨_, rfl, b, kvs, rfl, .inl (c1 _ _ hb0), fun l2 bs2 hl2 ik2 => ?_⟩
      have d1 := Same.new (H := G1) (o := .lst (bs2.map V.ref)) hl2
      have d2 : upd G1 l2 (.lst (bs2.map V.ref)) l2 = _ := upd_same
      have ik2' : Paired (fun p b => (upd G1 l2 (.lst (bs2.map V.ref))) b = some (.tup (p.1.map kV))) kvs bs2 := Paired.mapP ik2 fun _ _ q => d1 _ _ q
      have ik1'' : Paired (fun p b => (upd G1 l2 (.lst (bs2.map V.ref))) b = some (.tup (p.1.map kV))) kvs bs1 := Paired.mapP ik1' fun _ _ q => d1 _ _ q
      generalize upd G1 l2 (.lst (bs2.map V.ref)) = G2 at d1 d2 ik2' ik1'' ⊢
      obtain ⟨m, rfl⟩ : ∃ m, n = m + 3 := ⟨n - 3, by omega⟩
      have len1 : kvs.length = bs1.length := Paired.length ik1''
      have len2 : kvs.length = bs2.length := Paired.length ik2'
      have alk : Alike (m + 3) G2 (.ref l1) (.ref l2) := by
        refine .inr (.inl ⟨l1, l2, _, _, rfl, rfl, d1 _ _ c2, d2, by rw [List.length_map]; omega, ?_⟩)
        refine paired_of (by rw [List.length_map, List.length_map]; omega) fun i x y hx hy => ?_
        rw [List.getElem?_map] at hx hy
        cases e1 : bs1[i]? with
        | none => rw [e1] at hx; cases hx
        | some b1 =>
          cases e2 : bs2[i]? with
          | none => rw [e2] at hy; cases hy
          | some b2 =>
            rw [e1] at hx
            rw [e2] at hy
            obtain rfl : V.ref b1 = x := Option.some.inj hx
            obtain rfl : V.ref b2 = y := Option.some.inj hy
            have hi : i < kvs.length := by
              have := (List.getElem?_eq_some_iff.mp e1).1
              omega
            obtain ⟨kv, ekv⟩ : ∃ kv, kvs[i]? = some kv := ⟨kvs[i], List.getElem?_eq_getElem hi⟩
            have t1 : G2 b1 = some (.tup (kv.1.map kV)) := paired_nth ik1'' i _ _ ekv e1
            have t2 : G2 b2 = some (.tup (kv.1.map kV)) := paired_nth ik2' i _ _ ekv e2
            obtain ⟨p, hp⟩ : ∃ p, kv.1 = keyP p := by
              have m := List.mem_of_getElem? ekv
              rw [ek] at m
              obtain ⟨p, _, e⟩ := List.mem_map.mp m
              exact ⟨p, (congrArg Prod.fst e).symm⟩
            rw [hp] at t1 t2
            exact .inr (.inr (.inl ⟨b1, b2, _, _, rfl, rfl, t1, t2, (by show 2 ≤ 100; decide), .cons (.inl (.inl ⟨_, rfl, rfl⟩)) (.cons (.inl (.inl ⟨_, rfl, rfl⟩)) .nil)⟩))
      refine ⟨.ref l1, .ref l2, rfl, alk, fun H2 s2 => ?_⟩
      refine at_name (σ' := [some (.ref a), some (.ref b), some (.bl true), none, none, none]) rfl ?_
      refine ⟨_, rfl, _, rfl, iteT ?_⟩
      have s02 : L2.Same H H2 := fun c o e => s2 _ _ (d1 _ _ (c1 _ _ (s1 _ _ e)))
      have ha2 : H2 a = some (.dT kvs) := s2 _ _ (d1 _ _ (c1 _ _ ha0))
      have hb2 : H2 b = some (.dT kvs) := s2 _ _ (d1 _ _ (c1 _ _ hb0))
      refine ⟨a, .dT kvs, ha2, trivial, fun od => ?_⟩
      refine ⟨_, rfl, a, od, rfl, .inr ⟨kvs, upd_same, fun D hD => ?_⟩⟩
      have nDa : D ≠ a := fun e => by rw [e, upd_same] at hD; cases hD
      refine lc_true walk_keysT (by omega) hD (fun H' s => s _ _ upd_same) ?_ ?_
      · rintro j x H0 H1 R hj s3 ⟨rfl, kk, v, q, hk, rfl, hq⟩ kR
        have hv : valV kvs kk = some v := valV_mem ndk (List.mem_of_getElem? hk)
        obtain ⟨z, rfl⟩ : ∃ z, v = .str z := by
          have m := List.mem_of_getElem? hk
          rw [ek] at m
          obtain ⟨p, _, e⟩ := List.mem_map.mp m
          exact ⟨f p.1 p.2, (congrArg Prod.snd e).symm⟩
        have ga : DGet H1 a (.ref q) (some (.str z)) := .inr ⟨kvs, kk, q, .inr ⟨od, s3 _ _ upd_same⟩, rfl, hq, hv.symm⟩
        have gb : DGet H1 b (.ref q) (some (.str z)) := by
          refine .inr ⟨kvs, kk, q, ?_, rfl, hq, hv.symm⟩
          by_cases e : b = a
          · rw [e]; exact .inr ⟨od, s3 _ _ upd_same⟩
          · exact .inl (s3 _ _ ((upd_ne e).trans hb2))
        refine at_name (σ' := [some (.ref a), some (.ref b), some (.bl true), none, none, some (.ref q)]) rfl ⟨rfl, ?_⟩
        exact ⟨_, rfl, _, rfl, a, _, rfl, ga, _, rfl, _, rfl, b, _, rfl, gb, .str z, .str z, rfl, .inl (.inl ⟨z, rfl, rfl⟩), kR⟩
      · intro H1 s3 hD1
        refine ⟨s3 _ _ upd_same, D, _, rfl, SqL.of ((upd_ne nDa).trans hD1), ?_⟩
        rw [all_true]
        refine k _ fun c o e => ?_
        by_cases hc : c = a
        · rw [hc] at e ⊢
          have := s02 _ _ e
          rw [ha2] at this
          rw [upd_same]; exact this
        · rw [upd_ne hc]
          exact s3 _ _ ((upd_ne hc).trans (s02 _ _ e))
    · skip
      refine ⟨_, rfl, (by show 2 ≤ sizeLine; decide), fun tp htp => ?_⟩
      have s1 := Same.new (H := H) (o := .tup [.ty "list", .ty "tuple"]) htp
      have etp : upd H tp (.tup [.ty "list", .ty "tuple"]) tp = _ := upd_same
      generalize upd H tp (.tup [.ty "list", .ty "tuple"]) = G at s1 etp ⊢
      refine ⟨_, tp, _, _, _, false, rfl, etp, two_cls, .base (.dK (s1 _ _ ha)), kit2F (by decide +kernel) (by decide +kernel), _, rfl, iteF ?_⟩
      refine ⟨_, rfl, _, _, _, _, true, rfl, .ty _, .base (.dK (s1 _ _ ha)), kit_ty (by decide +kernel), _, rfl, iteT ?_⟩
      refine ⟨_, rfl, _, _, _, _, true, rfl, .ty _, .base (.dK (s1 _ _ hb)), kit_ty (by decide +kernel), _, rfl, iteT ?_⟩
      have ekV : (kvs.map fun kv => kV kv.1) = ks.map V.str := by
        have e := congrArg (List.map kV) ek
        rw [List.map_map, List.map_map] at e
        exact e
      have lk : kvs.length = ks.length := by have := congrArg List.length ek; rw [List.length_map, List.length_map] at this; exact this
      have ndk2 : (kvs.map (·.1)).Nodup := by
        rw [ek]
        exact List.pairwise_map.mpr (List.Pairwise.imp (fun {a b} (ne : a ≠ b) e => ne (Sum.inr.inj e)) ndk)
      refine .inr ⟨_, rfl, a, kvs, rfl, s1 _ _ ha, fun l1 hl1 => ?_⟩
      rw [ekV]
      have c1 := Same.new (H := G) (o := .lst (ks.map V.str)) hl1
      have c2 : upd G l1 (.lst (ks.map V.str)) l1 = _ := upd_same
      generalize upd G l1 (.lst (ks.map V.str)) = G1 at c1 c2 ⊢
      refine .inr ⟨_, rfl, b, kvs, rfl, c1 _ _ (s1 _ _ hb), fun l2 hl2 => ?_⟩
      rw [ekV]
      have d1 := Same.new (H := G1) (o := .lst (ks.map V.str)) hl2
      have d2 : upd G1 l2 (.lst (ks.map V.str)) l2 = _ := upd_same
      generalize upd G1 l2 (.lst (ks.map V.str)) = G2 at d1 d2 ⊢
      obtain ⟨m, rfl⟩ : ∃ m, n = m + 2 := ⟨n - 2, by omega⟩
      have alk : Alike (m + 2) G2 (.ref l1) (.ref l2) := by
        refine .inr (.inl ⟨l1, l2, _, _, rfl, rfl, d1 _ _ c2, d2, by rw [List.length_map]; exact hl, ?_⟩)
        refine paired_of rfl fun i x y hx hy => ?_
        rw [hx] at hy
        obtain rfl := Option.some.inj hy
        obtain ⟨z, _, rfl⟩ := str_get hx
        exact .inl (.inl ⟨z, rfl, rfl⟩)
      refine ⟨.ref l1, .ref l2, rfl, alk, fun H2 s2 => ?_⟩
      refine at_name (σ' := [some (.ref a), some (.ref b), some (.bl true), none, none, none]) rfl ?_
      refine ⟨_, rfl, _, rfl, iteT ?_⟩
      have s02 : L2.Same H H2 := fun c o e => s2 _ _ (d1 _ _ (c1 _ _ (s1 _ _ e)))
      have ha2 : H2 a = some (.dK kvs) := s02 _ _ ha
      have hb2 : H2 b = some (.dK kvs) := s02 _ _ hb
      refine ⟨a, .dK kvs, ha2, trivial, fun od => ?_⟩
      refine ⟨_, rfl, a, od, rfl, .inl ⟨kvs, upd_same, fun D hD => ?_⟩⟩
      have nDa : D ≠ a := fun e => by rw [e, upd_same] at hD; cases hD
      refine lc_true walk_keys (by omega) hD (fun H' s => s _ _ upd_same) ?_ ?_
      · rintro j x H0 H1 R hj s3 ⟨rfl, kk, v, hk, rfl⟩ kR
        have hv : valV kvs kk = some v := valV_mem ndk2 (List.mem_of_getElem? hk)
        have ga : DGet H1 a (kV kk) (some v) := .inl ⟨kvs, kk, .inr ⟨od, s3 _ _ upd_same⟩, rfl, hv.symm⟩
        have gb : DGet H1 b (kV kk) (some v) := by
          refine .inl ⟨kvs, kk, ?_, rfl, hv.symm⟩
          by_cases e : b = a
          · rw [e]; exact .inr ⟨od, s3 _ _ upd_same⟩
          · exact .inl (s3 _ _ ((upd_ne e).trans hb2))
        refine at_name (σ' := [some (.ref a), some (.ref b), some (.bl true), none, none, some (kV kk)]) rfl ⟨rfl, ?_⟩
        exact ⟨_, rfl, _, rfl, a, _, rfl, ga, _, rfl, _, rfl, b, _, rfl, gb, v, v, rfl, .inl (fl _ (List.mem_of_getElem? hk)), kR⟩
      · intro H1 s3 hD1
        refine ⟨s3 _ _ upd_same, D, _, rfl, SqL.of ((upd_ne nDa).trans hD1), ?_⟩
        rw [all_true]
        refine k _ fun c o e => ?_
        by_cases hc : c = a
        · rw [hc] at e ⊢
          have := s02 _ _ e
          rw [ha2] at this
          rw [upd_same]; exact this
        · rw [upd_ne hc]
          exact s3 _ _ ((upd_ne hc).trans (s02 _ _ e))
theorem ok_exact {f : Addr} {fd : FuncData} (F : Fun K "_law_exact" "_law_exact" sExact f fd) (B : Blt mg) (Z : Blp mg) (hz : mg "zip" = none) (me : mg "_law_exact" = some (.ref f)) (kp : PySem.W.keepIn K (.ref f) = true) (hb : Binds K fd ["_law_mine", "_law_theirs"] []) : ∀ n, FnOk P w K mg base CX0 (n + 1) f fd ["_law_mine", "_law_theirs"] (spExact n)
  | 0 => by
    refine F.ok scExact (fun vs H Q E h => ?_) (fun cdv A outer s H vs Q E hr h => ?_)
    · obtain ⟨v, w2, rfl, _⟩ := h
      rfl
    · obtain ⟨v, w2, rfl, al, k⟩ := h
      exact al.elim
  | n + 1 => step_exact F B Z hz ⟨f, fd, ok_exact F B Z hz me kp hb n, me, kp, hb⟩
end
end KT
set_option Elab.async false
set_option linter.all false
set_option maxRecDepth 100000
set_option maxHeartbeats 4000000
namespace KT
open PySem L2 PyProof.Rows DTp TxS
/-- stands whatever happens to a thing that is no tuple -/
def StabF (F : Nat → V → Hp → Prop) : Prop := ∀ (D : Addr) (o : HO) (i : Nat) (y : V) (H H' : Hp), H D = some o → (∀ ys, o ≠ .tup ys) → But D H H' → F i y H → F i y H'
theorem StabF.val (v : Nat → V) : StabF fun i y _ => y = v i := fun _ _ _ _ _ _ _ _ _ h => h
theorem StabF.tup (f : Nat → List V → Prop) : StabF fun i y H => ∃ t xs, y = .ref t ∧ H t = some (.tup xs) ∧ f i xs := fun D o i y H H' hD no bt ⟨t, xs, e, ht, q⟩ =>
  ⟨t, xs, e, bt t _ (fun z => by rw [z, hD] at ht; exact no xs (Option.some.inj ht)) ht, q⟩
section
variable {J : It} {n : Nat} {G : Hp → Prop} {Y : Nat → Hp → V → Hp → Prop}
theorem lc_each (W : Walk J n G Y) {g : TG} {te : TE} {vs : List Nat} {σ : L2.St} {H1 : Hp} {D : Addr} {Qd : Hp → Prop} (F : Nat → V → Hp → Prop) (st : StabF F) (few : n ≤ 1000) (hD : H1 D = none) (stay : ∀ H', L2.Same H1 H' → G H')
    (step : ∀ i x H H' (R : VK), i < n → L2.Same H1 H → Y i H x H' → (∀ y H3, L2.Same H H3 → F i y H3 → R y H3) → g x (wipe σ vs) H' fun σ2 H2 => wipe σ2 vs = wipe σ vs ∧ te σ2 H2 R)
    (done : ∀ H' ys, L2.Same H1 H' → H' D = some (.lst ys) → ys.length = n → (∀ i y, ys[i]? = some y → F i y H') → Qd H') :
    ∃ W : Nat → Nat → Hp → Prop, (∃ m, W 0 m (upd H1 D (.lst []))) ∧ ∀ i m H, W i m H →
      (J.stop i H ∧ Qd H) ∨ (J.go i H ∧ ∃ Nx : Hp → Prop, (∀ H', Nx H' → ∃ m', m' < m ∧ W (i + 1) m' H') ∧ ∀ x H', J.yld i H x H' → g x (wipe σ vs) H' fun σ2 H2 => wipe σ2 vs = wipe σ vs ∧ tYes σ2 H2 fun b H3 =>
        if b = true then te σ2 H3 fun y H4 => ∃ acc, H4 D = some (.lst acc) ∧ acc.length < sizeLine ∧ Nx (upd H4 D (.lst (acc ++ [y]))) else Nx H3) := by
  refine lc_it W (tt := tYes) (fun i H' => L2.Same H1 H' ∧ ∃ ys : List V, H' D = some (.lst ys) ∧ ys.length = i ∧ ∀ j y, ys[j]? = some y → F j y H') ⟨Same.new hD, [], upd_same, rfl, fun j y h => by cases h⟩ (fun i H' _ h => stay H' h.1) (fun i x H H' hi h y => ?_) (fun H' h => ?_)
  · obtain ⟨s1, ys, hDp, ly, fy⟩ := h
    refine step i x H H' _ hi s1 y fun z H3 s2 fz => ⟨_, s2 _ _ hDp, small1000 (by omega), ?_, ys ++ [z], upd_same, ?_, ?_⟩
    · intro c o e
      rw [upd_ne (ne_of_none e hD)]
      exact s2 _ _ (s1 _ _ e)
    · rw [List.length_append, ly]; rfl
    · intro j y hj
      by_cases e : j < ys.length
      · rw [List.getElem?_append_left e] at hj
        exact st D _ j y H _ hDp (fun _ z => nomatch z) (fun b o ne hb => (upd_ne ne).trans (s2 _ _ hb)) (fy j y hj)
      · have ej : j = i := by
          have := (List.getElem?_eq_some_iff.mp hj).1
          rw [List.length_append, List.length_singleton] at this
          omega
        rw [List.getElem?_append_right (by omega), ej, ly, Nat.sub_self] at hj
        obtain rfl : z = y := Option.some.inj hj
        rw [ej]
        exact st D _ i z H3 _ (s2 _ _ hDp) (fun _ z => nomatch z) (fun b o ne hb => (upd_ne ne).trans hb) fz
  · obtain ⟨s1, ys, hDp, ly, fy⟩ := h
    exact done H' ys s1 hDp ly fy
end
section
variable {K : PySem.W.Frag}
/-- [.. for key in told], the keys tuples -/
theorem lk_each {te0 : TE} {g : TG} {te : TE} {vs : List Nat} {σ : L2.St} {H : Hp} {Q : VK} {d : Addr} {kvs : List (List Key × V)} (hi : ∀ od (R : VK), R (.ref d) (upd H d (.frz od (.dT kvs))) → te0 σ (upd H d (.frz od (.dT kvs))) R) (hd : H d = some (.dT kvs))
    (F : Nat → V → Hp → Prop) (st : StabF F) (few : kvs.length ≤ 1000)
    (step : ∀ i kk v q od H1 (R : VK), kvs[i]? = some (kk, v) → L2.Same (upd H d (.frz od (.dT kvs))) H1 → H1 q = some (.tup (kk.map kV)) → (∀ y H3, L2.Same H1 H3 → F i y H3 → R y H3) → g (.ref q) (wipe σ vs) H1 fun σ2 H2 => wipe σ2 vs = wipe σ vs ∧ te σ2 H2 R)
    (k : ∀ D ys H', L2.Same H H' → H D = none → H' D = some (.lst ys) → ys.length = kvs.length → (∀ i y, ys[i]? = some y → F i y H') → Q (.ref D) H') :
    tLockE (tLc (iKeys te0) g tYes te vs) σ H Q := by
  refine ⟨d, .dT kvs, hd, trivial, fun od => ?_⟩
  refine hi od _ ⟨d, od, rfl, .inr ⟨kvs, upd_same, fun D hD => ?_⟩⟩
  have nDd : D ≠ d := fun e => by rw [e, upd_same] at hD; cases hD
  have hD0 : H D = none := by rw [upd_ne nDd] at hD; exact hD
  refine lc_each walk_keysT F st few hD (fun H' s => s _ _ upd_same) ?_ ?_
  · rintro i x H1 H1' R hi s1 ⟨rfl, kk, v, q, hk, rfl, hq⟩ kR
    exact step i kk v q od H1' R hk s1 hq kR
  · intro H1 ys s1 hD1 ly fy
    have hdl : H1 d = some (.frz od (.dT kvs)) := s1 _ _ upd_same
    refine ⟨hdl, k D ys _ (fun b o e => ?_) hD0 ((upd_ne nDd).trans hD1) ly fun i y hy => st d _ i y H1 _ hdl (fun _ z => nomatch z) (fun b o ne hb => (upd_ne ne).trans hb) (fy i y hy)⟩
    by_cases hb : b = d
    · rw [hb] at e ⊢
      rw [hd] at e
      rw [upd_same]; exact e
    · rw [upd_ne hb]
      exact s1 _ _ ((upd_ne hb).trans e)
/-- [.. for x in a list] -/
theorem ll_each {te0 : TE} {g : TG} {te : TE} {vs : List Nat} {σ : L2.St} {H : Hp} {Q : VK} (R0 : Addr → List V → Hp → Prop) (F : Nat → V → Hp → Prop) (st : StabF F)
    (hl : ∀ R : VK, (∀ l xs H1, R0 l xs H1 → SqL K H1 l xs → xs.length ≤ 1000 → R (.ref l) H1) → te0 σ H R)
    (keep : ∀ l xs H1 H2, R0 l xs H1 → L2.Same H1 H2 → SqL K H2 l xs)
    (step : ∀ l xs H0 i x H1 (R : VK), R0 l xs H0 → xs[i]? = some x → L2.Same H0 H1 → (∀ y H3, L2.Same H1 H3 → F i y H3 → R y H3) → g x (wipe σ vs) H1 fun σ2 H2 => wipe σ2 vs = wipe σ vs ∧ te σ2 H2 R)
    (k : ∀ l xs H0 D ys H', R0 l xs H0 → L2.Same H0 H' → H0 D = none → H' D = some (.lst ys) → ys.length = xs.length → (∀ i y, ys[i]? = some y → F i y H') → Q (.ref D) H') :
    tLc (iList K te0) g tYes te vs σ H Q := by
  refine hl _ fun l xs H1 r0 hs few => ?_
  refine ⟨l, rfl, ⟨xs, hs⟩, fun D hD => ?_⟩
  refine lc_each (walk_list (K := K) (a := l) (xs := xs)) F st few hD (fun H' s => keep l xs H1 H' r0 s) ?_ ?_
  · rintro i x H2 H2' R hi s1 ⟨rfl, hx⟩ kR
    exact step l xs H1 i x _ R r0 hx s1 kR
  · intro H2 ys s1 hD1 ly fy
    exact k l xs H1 D ys H2 r0 s1 hD hD1 ly fy
end
/-- things all of which are addresses -/
theorem refs_of {α : Type} {R : Addr → α → Prop} : ∀ {L : List α} {ys : List V}, ys.length = L.length → (∀ (i : Nat) (y : V) (a : α), ys[i]? = some y → L[i]? = some a → ∃ t, y = .ref t ∧ R t a) → ∃ ps : List Addr, ys = ps.map V.ref ∧ Paired R ps L
  | [], [], _, _ => ⟨[], rfl, .nil⟩
  | [], _ :: _, h, _ => by cases h
  | _ :: _, [], h, _ => by cases h
  | a :: L, y :: ys, h, k => by
    obtain ⟨t, rfl, r⟩ := k 0 y a rfl rfl
    obtain ⟨ps, e, p⟩ := refs_of (Nat.succ.inj h) fun i y a h1 h2 => k (i + 1) y a h1 h2
    exact ⟨t :: ps, by rw [e]; rfl, .cons r p⟩
theorem keys_putK (kvs : List (Key × V)) (ks : List Str) (x : Str) (v : V) (h : kvs.map (·.1) = ks.map Sum.inr) : (putK kvs (Sum.inr x) v).map (·.1) = (added ks x).map Sum.inr := by
  unfold putK added
  have ha : (kvs.any fun kv => decide (kv.1 = Sum.inr x)) = decide (x ∈ ks) := by
    have e1 : (kvs.any fun kv => decide (kv.1 = Sum.inr x)) = (kvs.map (·.1)).any fun k => decide (k = Sum.inr x) := by rw [List.any_map]; rfl
    rw [e1, h, List.any_map]
    by_cases z : x ∈ ks
    · rw [decide_eq_true z]
      exact List.any_eq_true.mpr ⟨x, z, by simp⟩
    · rw [decide_eq_false z, List.any_eq_false]
      intro y hy
      simp only [Function.comp, decide_eq_true_eq]
      intro e
      injection e with e
      exact z (e ▸ hy)
  rw [ha]
  by_cases z : x ∈ ks
  · rw [if_pos (decide_eq_true z), if_pos z, ← h, List.map_map]
    refine List.map_congr_left fun kv _ => ?_
    show (if kv.1 = Sum.inr x then (kv.1, v) else kv).1 = kv.1
    split <;> rfl
  · rw [if_neg (by simp [z]), if_neg z, List.map_append, List.map_append, h]
    rfl
theorem keys_mergeK : ∀ (L : List (Str × V)) (kvs : List (Key × V)) (ks : List Str), kvs.map (·.1) = ks.map Sum.inr → ks.Nodup → ∃ ks' : List Str, (mergeK kvs (L.map fun p => (Sum.inr p.1, p.2))).map (·.1) = ks'.map Sum.inr ∧ ks'.Nodup ∧ ∀ x, x ∈ ks' ↔ x ∈ ks ∨ x ∈ L.map (·.1)
  | [], kvs, ks, h, n => ⟨ks, h, n, fun x => by simp⟩
  | p :: L, kvs, ks, h, n => by
    obtain ⟨ks', h1, h2, h3⟩ := keys_mergeK L (putK kvs (Sum.inr p.1) p.2) (added ks p.1) (keys_putK kvs ks p.1 p.2 h) (added_nodup n)
    refine ⟨ks', h1, h2, fun x => ?_⟩
    rw [h3, added_mem, List.map_cons, List.mem_cons]
    constructor
    · rintro ((a | b) | c)
      · exact .inl a
      · exact .inr (.inl b)
      · exact .inr (.inr c)
    · rintro (a | b | c)
      · exact .inl (.inl a)
      · exact .inl (.inr b)
      · exact .inr c
section
variable {P : Program} {w : World} {K : PySem.W.Frag} {mg : Str → Option Value} {base : Heap} {C : Addr}
def spKindsOf : Sp := fun vs H Q _ => ∃ (d : Addr) (ws : List Str) (f : Str → Str → Str), vs = [.ref d] ∧ H d = some (.dT (tabW ws f)) ∧ KW ws f ∧ ∀ (q : Addr) (H' : Hp), L2.Same H H' → H q = none → H' q = some (.lst (ws.map V.str)) → Q (.ref q) H'
abbrev nKindsOf : List Str := ["_law_table_here", "_law_pair"]
theorem scKindsOf : FnScope nKindsOf ["_law_table_here"] (defScope sKindsOf) := ⟨rfl, rfl, rfl, by decide +kernel, rfl, by decide +kernel, by decide +kernel⟩
theorem pairsW_fst {ws : List Str} {x : Str} : x ∈ (pairsW ws).map (·.1) ↔ x ∈ ws := by
  rw [List.mem_map]
  constructor
  · rintro ⟨p, hp, rfl⟩
    exact (mem_pairsW.mp hp).1
  · intro h
    exact ⟨(x, x), mem_pairsW.mpr ⟨h, h⟩, rfl⟩
theorem tabW_at {ws : List Str} {f : Str → Str → Str} {i : Nat} {kk : List Key} {v : V} (h : (tabW ws f)[i]? = some (kk, v)) : ∃ p, (pairsW ws)[i]? = some p ∧ kk = keyP p ∧ v = valW f p ∧ p.1 ∈ ws ∧ p.2 ∈ ws := by
  unfold tabW at h
  rw [List.getElem?_map] at h
  cases e : (pairsW ws)[i]? with
  | none => rw [e] at h; cases h
  | some p =>
    rw [e] at h
    have h := Option.some.inj h
    have m := mem_pairsW.mp (List.mem_of_getElem? e)
    exact ⟨p, rfl, (congrArg Prod.fst h).symm, (congrArg Prod.snd h).symm, m.1, m.2⟩
theorem tab16 {ws : List Str} {f : Str → Str → Str} (kw : KW ws f) : (tabW ws f).length ≤ 16 := by
  rw [tabW_len]
  exact Nat.le_trans (Nat.mul_le_mul kw.few kw.few) (by decide)
theorem ok_kindsOf {g : Addr} {fd : FuncData} (F : Fun K "_law_kinds_of" "_law_kinds_of" sKindsOf g fd) (Z : Blp mg) : FnOk P w K mg base CX0 1 g fd ["_law_table_here"] spKindsOf := by
  refine F.ok scKindsOf (fun vs H Q E h => ?_) (fun cdv A outer s H vs Q E hr h => ?_)
  · obtain ⟨d, ws, f, rfl, _⟩ := h
    rfl
  · obtain ⟨d, ws, f, rfl, hd, kw, k⟩ := h
    have nd := scKindsOf.nd
    refine ⟨_, pss_one (ps_ret (pe_callB (call_sortedD rfl) (by rfl) Z.sorted (by decide +kernel) (pa_cons (pe_callTy (call_dictP rfl) (by rfl) Z.dict (by decide +kernel) (pa_cons (pe_lock
      (pe_lc (own := [("_law_pair", 1)]) (g := gName 1) (tt := tYes) (te := tTup (tCons (tOp (rIxT K) (tVar 1) (tC (.int 0))) (tCons (tC (.bl true)) tNil))) rfl nd (pi_keys (pv 0)) (blkOk_by (own := [("_law_pair", 1)]) (N := nKindsOf) (sc := defScope sKindsOf) (by decide +kernel))
        (fun _ _ _ _ _ => pg_name (i := 1) nd rfl (Or.inl rfl)) (fun _ _ _ _ _ => pts_nil) (fun _ _ _ _ _ => pe_tup (pa_cons (pe_ix ix_tup (pv 1) pe_int (fun _ _ => rfl)) (pa_cons pe_bl pa_nil))))) pa_nil)) pa_nil))), ?_⟩
    refine lk_each (fun od R hh => ⟨_, rfl, hh⟩) hd (fun i y H' => ∃ t xs, y = .ref t ∧ H' t = some (.tup xs) ∧ ∃ p, (pairsW ws)[i]? = some p ∧ xs = [.str p.1, .bl true]) (StabF.tup _) (by have := tab16 kw; omega) ?_ ?_
    · rintro i kk v q od H1 R hk s1 hq kR
      obtain ⟨⟨x, y⟩, e1, rfl, rfl, _, _⟩ := tabW_at hk
      refine at_name (σ' := [some (.ref d), some (.ref q)]) rfl ⟨rfl, ?_⟩
      refine ⟨_, rfl, q, [.str x, .str y], 0, _, rfl, rfl, SqT.of hq, atI_nat (j := 0) rfl, (by show 2 ≤ sizeLine; decide), fun t ht => ?_⟩
      exact kR _ _ (Same.new ht) ⟨t, _, rfl, upd_same, (x, y), e1, rfl⟩
    · intro D ys H1 s1 hD0 hD ly fy
      have lpw : (tabW ws f).length = (pairsW ws).length := by unfold tabW; rw [List.length_map]
      obtain ⟨ps, rfl, pr⟩ := refs_of (L := pairsW ws) (R := fun t p => H1 t = some (.tup [.str p.1, .bl true])) (ly.trans lpw) fun i y a h1 h2 => by
        obtain ⟨t, xs, e1, e2, p, e3, e4⟩ := fy i y h1
        rw [h2] at e3
        obtain rfl := Option.some.inj e3
        exact ⟨t, e1, by rw [← e4]; exact e2⟩
      have pr2 : Paired (fun p (kv : Key × V) => SqT K H1 p [kV kv.1, kv.2]) ps (((pairsW ws).map fun p => (p.1, V.bl true)).map fun p => (Sum.inr p.1, p.2)) := by
        rw [List.map_map]
        clear fy ly hD
        generalize pairsW ws = L at pr
        induction pr with
        | nil => exact .nil
        | cons r t ih => exact .cons (SqT.of r) ih
      refine ⟨D, ps, _, rfl, SqL.of hD, pr2, fun q hq => ?_⟩
      obtain ⟨ks, m1, m2, m3⟩ := keys_mergeK ((pairsW ws).map fun p => (p.1, V.bl true)) [] [] rfl .nil
      have m4 : ∀ x, x ∈ ks ↔ x ∈ ws := fun x => by
        rw [m3, List.map_map]
        have := pairsW_fst (ws := ws) (x := x)
        simp only [List.not_mem_nil, false_or]
        exact this
      have l4 : ks.length ≤ 4 := Nat.le_trans (List.Nodup.length_le_of_subset m2 fun x hx => (m4 x).mp hx) kw.few
      refine ⟨q, _, ks, rfl, .inl upd_same, m1, by omega, fun ys p py so hp => ?_⟩
      have ey : ys = ws := Asc.eq (sortedS_asc so (py.nodup_iff.mpr m2)) kw.asc (py.trans ((List.perm_ext_iff_of_nodup m2 kw.asc.nodup).mpr m4))
      subst ey
      have sq := Same.new (H := H1) (o := .dK (mergeK [] (((pairsW ys).map fun p => (p.1, V.bl true)).map fun p => (Sum.inr p.1, p.2)))) hq
      refine k p _ (fun b o e => ?_) (s1.free (sq.free hp)) upd_same
      rw [upd_ne (ne_of_none (sq _ _ (s1 _ _ e)) hp)]
      exact sq _ _ (s1 _ _ e)
/-- [k for k in kinds_of(t) if t[k, k] == k] -/
def spSquares : Sp := fun vs H Q _ => ∃ (d : Addr) (ws : List Str) (f : Str → Str → Str), vs = [.ref d] ∧ H d = some (.dT (tabW ws f)) ∧ KW ws f ∧ ∀ (q : Addr) (H' : Hp), L2.Same H H' → H q = none → H' q = some (.lst ((sqs ws f).map V.str)) → Q (.ref q) H'
abbrev nSquares : List Str := ["_law_table_here", "_law_kind"]
theorem scSquares : FnScope nSquares ["_law_table_here"] (defScope sSquares) := ⟨rfl, rfl, rfl, by decide +kernel, rfl, by decide +kernel, by decide +kernel⟩
theorem ok_squares {g : Addr} {fd : FuncData} (F : Fun K "_law_squares" "_law_squares" sSquares g fd) (M : Cee P w K mg base 1 "_law_kinds_of" ["_law_table_here"] spKindsOf) : FnOk P w K mg base CX0 2 g fd ["_law_table_here"] spSquares := by
  refine F.ok scSquares (fun vs H Q E h => ?_) (fun cdv A outer s H vs Q E hr h => ?_)
  · obtain ⟨d, ws, f, rfl, _⟩ := h
    rfl
  · obtain ⟨d, ws, f, rfl, hd, kw, k⟩ := h
    have nd := scSquares.nd
    refine ⟨_, pss_one (ps_ret (pe_lc (own := [("_law_kind", 1)]) (g := gName 1) (tt := tTest (tOp rEq (tGet2 (tVar 0) (tVar 1) (tVar 1)) (tVar 1))) (te := tVar 1) rfl nd (pi_list (pe_c M hr rfl (pa_cons (pv 0) pa_nil)))
        (blkOk_by (own := [("_law_kind", 1)]) (N := nSquares) (sc := defScope sSquares) (by decide +kernel)) (fun _ _ _ _ _ => pg_name (i := 1) nd rfl (Or.inl rfl)) (fun _ _ _ _ _ => pts_one (pt_cmpR op_eq (pe_dget (hu_of hr) (pv 0) (pe_tup (pa_cons (pv 1) (pa_cons (pv 1) pa_nil))) (fun _ _ => rfl)) (pv 1) (nomark _))) (fun _ _ _ _ _ => pv 1))), ?_⟩
    refine ⟨_, rfl, d, ws, f, rfl, hd, kw, fun q H1 s1 hq0 hq => ?_⟩
    refine ⟨q, rfl, ⟨_, SqL.of hq⟩, fun D hD => ?_⟩
    refine lc_it (walk_list (K := K) (a := q) (xs := ws.map V.str)) (fun i H' => L2.Same H1 H' ∧ H' D = some (.lst (((ws.take i).filter fun x => decide (f x x = x)).map V.str))) ?_ ?_ ?_ ?_
    · exact ⟨Same.new hD, upd_same⟩
    · rintro i H2 _ ⟨s2, _⟩
      exact SqL.of (s2 _ _ hq)
    · rintro i v H0 H2 hi ⟨s2, hD2⟩ ⟨rfl, hv⟩
      obtain ⟨x, ex, rfl⟩ := str_get hv
      have mx : x ∈ ws := List.mem_of_getElem? ex
      have td : TabW H2 d ws f := ⟨_, .inl (s2 _ _ (s1 _ _ hd)), tabW_tb kw.asc.nodup⟩
      refine at_name (σ' := [some (.ref d), some (.str x)]) rfl ⟨rfl, ?_⟩
      refine ⟨_, rfl, _, rfl, _, rfl, (by show 2 ≤ sizeLine; decide), fun t ht => ?_⟩
      have s3 := Same.new (H := H2) (o := .tup [.str x, .str x]) ht
      refine ⟨d, _, rfl, (td.mono s3).get mx mx upd_same, ?_⟩
      generalize upd H2 t (.tup [.str x, .str x]) = H3 at s3 ⊢
      refine ⟨_, rfl, rfl, _, rfl, ?_⟩
      have hD3 := s3 _ _ hD2
      have lenb : ((ws.take i).filter fun x => decide (f x x = x)).length ≤ 4 := Nat.le_trans (List.length_filter_le _ _) (by rw [List.length_take]; have := kw.few; omega)
      have dq : decide (V.str (f x x) = V.str x) = decide (f x x = x) := by
        by_cases z : f x x = x
        · rw [z]; simp
        · rw [decide_eq_false z, decide_eq_false]
          intro e
          injection e with e
          exact z e
      rw [dq, take_next' ex, List.filter_append]
      refine ite2 (fun hsq => ?_) (fun hsq => ?_)
      · refine ⟨_, rfl, _, hD3, ?_, fun c o e => ?_, ?_⟩
        · rw [List.length_map]
          exact small1000 (by omega)
        · rw [upd_ne (ne_of_none e hD)]
          exact s3 _ _ (s2 _ _ e)
        · have e1 : List.filter (fun x => decide (f x x = x)) [x] = [x] := List.filter_cons_of_pos (p := fun x => decide (f x x = x)) (l := []) hsq
          rw [e1, List.map_append]
          exact upd_same
      · have e1 : List.filter (fun x => decide (f x x = x)) [x] = [] := List.filter_cons_of_neg (p := fun x => decide (f x x = x)) (l := []) hsq
        rw [e1, List.append_nil]
        exact ⟨fun c o e => s3 _ _ (s2 _ _ e), hD3⟩
    · rintro H2 ⟨s2, hD2⟩
      rw [List.length_map, List.take_length] at hD2
      exact k D H2 (fun c o e => s2 _ _ (s1 _ _ e)) (s1.free hD) hD2
end
end KT
set_option Elab.async false
set_option linter.all false
set_option maxRecDepth 100000
set_option maxHeartbeats 4000000
namespace KT
open PySem L2 PyProof.Rows DTp TxS
section
variable {P : Program} {w : World} {K : PySem.W.Frag} {mg : Str → Option Value} {base : Heap} {C : Addr}
theorem paired_append {α β : Type} {F : α → β → Prop} : ∀ {xs : List α} {ys : List β} {xs2 : List α} {ys2 : List β}, Paired F xs ys → Paired F xs2 ys2 → Paired F (xs ++ xs2) (ys ++ ys2)
  | _, _, _, _, .nil, h => h
  | _, _, _, _, .cons r t, h => .cons r (paired_append t h)
theorem ItT.mono {H H' : Hp} (s : L2.Same H H') {ts : List Addr} {kvs : List (List Key × V)} (h : ItT H ts kvs) : ItT H' ts kvs := Paired.mapP h fun _ _ ⟨b, h1, h2⟩ => ⟨b, s _ _ h1, s _ _ h2⟩
theorem KdNew.back {C : Addr} {H H1 H2 : Hp} {x : Addr} {ws : List Str} {f : Str → Str → Str} (s : L2.Same H H1) (h : KdNew C H1 H2 x ws f) : KdNew C H H2 x ws f := let ⟨dx, d, l, k, a, b, c, e⟩ := h; ⟨dx, d, l, k, s.free a, s.free b, s.free c, s.free e⟩
def octs : List Str := (SmR.signs "abcdefghijklmnopqrstuvwxyz").map fun z => Txt.mul z 8
theorem octs_eq : octs = (List.range 26).map fun j => (⟨(Array.replicate 8 (97 + j))⟩ : Str) := by decide +kernel
theorem octs_nodup : octs.Nodup := by rw [octs_eq]; decide +kernel
theorem octs_len : octs.length = 26 := by rw [octs_eq]; decide +kernel
theorem octs_wd : ∀ x ∈ octs, Wd x := by
  rw [octs_eq]
  intro x hx
  obtain ⟨j, hj, rfl⟩ := List.mem_map.mp hx
  have j26 := List.mem_range.mp hj
  refine ⟨by show 1 ≤ (Array.replicate 8 (97 + j)).size; rw [Array.size_replicate]; decide, by show (Array.replicate 8 (97 + j)).size ≤ 8; rw [Array.size_replicate]; decide, fun c hc => ?_⟩
  have hc : c ∈ (Array.replicate 8 (97 + j)).toList := hc
  rw [Array.toList_replicate] at hc
  have := List.eq_of_mem_replicate hc
  omega
theorem filter_split {α : Type} (p : α → Bool) : ∀ L : List α, L.length = (L.filter p).length + (L.filter fun x => !p x).length
  | [] => rfl
  | x :: L => by
    have ih := filter_split p L
    by_cases h : p x = true
    · rw [List.filter_cons_of_pos h, List.filter_cons_of_neg (by simp [h]), List.length_cons, List.length_cons]; omega
    · rw [List.filter_cons_of_neg h, List.filter_cons_of_pos (by simpa using h), List.length_cons, List.length_cons]; omega
def spareW (ws : List Str) : List Str := octs.filter fun x => decide (x ∉ ws)
theorem spare_mem {ws : List Str} {x : Str} (h : x ∈ spareW ws) : Wd x ∧ x ∉ ws := by
  obtain ⟨a, b⟩ := List.mem_filter.mp h
  exact ⟨octs_wd x a, of_decide_eq_true b⟩
def spSpare : Sp := fun vs H Q _ => ∃ (l : Addr) (ws : List Str), vs = [.ref l] ∧ H l = some (.lst (ws.map V.str)) ∧ ∀ (q : Addr) (H' : Hp), L2.Same H H' → H q = none → H' q = some (.lst ((spareW ws).map V.str)) → Q (.ref q) H'
abbrev nSpare : List Str := ["_law_words_here", "_law_letter"]
theorem mul_ok8 {c : Nat} : MulOk ⟨#[c]⟩ 8 := by
  refine ⟨by decide, fun _ _ => ?_, fun _ _ => rfl⟩
  show ¬ (((#[c] : Array Nat).size : Int) > (2 ^ 63 - 1) / 8)
  show ¬ ((1 : Int) > (2 ^ 63 - 1) / 8)
  decide
end
end KT
set_option Elab.async false
set_option linter.all false
set_option maxRecDepth 100000
set_option maxHeartbeats 4000000
namespace KT
open PySem L2 PyProof.Rows DTp TxS
section
variable {ws vs : List Str} {f g : Str → Str → Str}
theorem valV_tabW {x y : Str} (n : ws.Nodup) (hx : x ∈ ws) (hy : y ∈ ws) : valV (tabW ws f) (keyP (x, y)) = some (.str (f x y)) :=
  (tabW_tb (f := f) n).get (i := (x, y)) ⟨hx, hy⟩
theorem putK_new {κ : Type} [DecidableEq κ] {kvs : List (κ × V)} {k : κ} {v : V} (h : k ∉ kvs.map (·.1)) : putK kvs k v = kvs ++ [(k, v)] := by
  unfold putK
  rw [if_neg]
  intro e
  obtain ⟨kv, hkv, e2⟩ := List.any_eq_true.mp e
  exact h (List.mem_map.mpr ⟨kv, hkv, of_decide_eq_true e2⟩)
theorem mergeK_nd : ∀ (more kvs : List (Key × V)), ((kvs ++ more).map (·.1)).Nodup → mergeK kvs more = kvs ++ more
  | [], kvs, _ => by rw [List.append_nil]; rfl
  | p :: more, kvs, h => by
    have e : kvs ++ p :: more = (kvs ++ [p]) ++ more := by simp
    have hp : p.1 ∉ kvs.map (·.1) := by
      rw [List.map_append, List.map_cons] at h
      intro m
      exact (List.nodup_append.mp h).2.2 _ m _ List.mem_cons_self rfl
    show mergeK (putK kvs p.1 p.2) more = _
    rw [putK_new hp, mergeK_nd more _ (by rw [← e]; exact h), e]
end
end KT
set_option Elab.async false
set_option linter.all false
set_option maxRecDepth 100000
set_option maxHeartbeats 4000000
namespace KT
open PySem L2 PyProof.Rows DTp TxS
section
variable {ws : List Str} {f : Str → Str → Str}
theorem cut_to (xs : List V) (j : Nat) (h : j ≤ xs.length) : cutV xs none (some (j : Int)) = xs.take j := by
  unfold cutV
  have e1 : HT.sIx xs.length 0 none = 0 := rfl
  have e2 : HT.sIx xs.length xs.length (some (j : Int)) = j := by
    rw [HT.sIx_nat]; omega
  rw [e1, e2, List.drop_zero, Nat.sub_zero]
theorem cut_from (xs : List V) (j : Nat) (h : j ≤ xs.length) : cutV xs (some (j : Int)) none = xs.drop j := by
  unfold cutV
  have e1 : HT.sIx xs.length xs.length none = xs.length := rfl
  have e2 : HT.sIx xs.length 0 (some (j : Int)) = j := by
    rw [HT.sIx_nat]; omega
  rw [e1, e2, List.take_of_length_le]
  rw [List.length_drop]
  exact Nat.le_refl _
theorem Pws.uniq {x : Str} {L a L' a' : Nat} (h : Pws f x L a) (h' : Pws f x L' a') : L = L' ∧ a = a' := by
  have hl : L = L' := by
    rcases Nat.lt_trichotomy L L' with z | z | z
    · exact absurd h.eq.symm (h'.dis a L h.lt z)
    · exact z
    · exact absurd h'.eq.symm (h.dis a' L' h'.lt z)
  subst hl
  exact ⟨rfl, h.inj h.lt h'.lt (h.eq.symm.trans h'.eq)⟩
end
end KT
set_option Elab.async false
set_option linter.all false
set_option maxRecDepth 100000
set_option maxHeartbeats 2000000
namespace OwQ
open PySem PySem.Spec PySem.W PyProof.Rows L2
section
variable {prog : Program} {w : World} {A : Around} {E : Value → Shared → Prop} {s : Shared} {K : Frag} {x C L f : Addr} {h₀ : Heap} {m : Str → Option Value} {ox : Obj} {od : Option Obj} {b tb : Value}
def BlBack (Q : Bool → Shared → Prop) (v : Value) (s' : Shared) : Prop := ∃ c, v = .bool c ∧ Q c s'
theorem ne_bind (self : Value) : bindSpecial (.builtin "object.__ne__") self = pure (.builtin "object.__ne__", [self]) :=
  (Slot.of (T := "object") (name := "__ne__") (owner := "object") (n := "__ne__") (by rw [typeLookup_type, builtinLookup_eq_fast]; kernel_rfl) (by decide +kernel) (by decide +kernel) (by decide +kernel) (.inl (by decide +kernel)) (by rw [isSubtype_type]; kernel_rfl)).bind self
theorem ne_call {Q : Bool → Shared → Prop} (hu : A.units + 1 < cLine) (X : K.In s.heap) (I : InstAt s.heap x ox C od) (hs : findIn K (.ref C) "__eq__" = some (some (.ref f))) (hf : isFn K (.ref f) = true) (hm : mroIn K C (.type "object") = some true)
    (h : wpAny (model prog w) A.in1 (call (.ref f) [.ref x, b]) (BlBack fun c s' => Q (!c) s') E s) : wpAny (model prog w) A (call (.builtin "object.__ne__") [.ref x, b]) (BlBack Q) E s := by
  refine wpAny_call (codeAny_call_builtin (by decide +kernel) F.cmpEntry_ne ?_)
  simp only [checkBuiltinCall, F.cmpKind_ne, F.cmpSplit_ne]
  unfold isInstance
  refine wpAny_bind (wpAny_bind (I.type.here ((looks_mroIn X hm).here ?_)))
  simp only [Bool.not_true, Bool.false_eq_true, if_false]
  have ha := F.cmpArgs_ne (.ref x) b
  have body : wpAny (model prog w) A.in1 (Builtin.«object.__ne__» ⟨[.ref x, b], []⟩) (fun fin s' => match fin with | .done f => wants (BlBack Q) E (.ok f) s' | .again c' => c'.quiet = true ∧ codeAny (model prog w) A c' (wants (BlBack Q) E) s') (fun e s' => wants (BlBack Q) E (.error e) s') s := by
    unfold Builtin.«object.__ne__»
    refine wpAny_bind (wpAny_pure ?_)
    refine wpAny_bind (wpAny_cRoomFor hu ?_)
    refine wpAny_bind (ifBound_K X I hs hf (wpAny_mono h (fun v s' hv => ?_) fun _ _ e => e))
    obtain ⟨c, rfl, q⟩ := hv
    dsimp only
    exact wpAny_bind (wpAny_truthy_bool (wpAny_pure ⟨!c, rfl, q⟩))
  cases hsig : Manifest.signature? "object.__ne__" with
  | none => exact wpAny_pure body
  | some sig =>
    simp only [argsOk, hsig] at ha
    have h2 : Bind.checkArgs "object.__ne__" sig ⟨[.ref x, b], []⟩ = pure () := ha
    show wpAny _ _ (Bind.checkArgs "object.__ne__" sig ⟨[.ref x, b], []⟩) _ _ _
    rw [h2]
    exact wpAny_pure body
theorem ne_own {Q : Bool → Shared → Prop} (hu : A.units + 2 < cLine) (X : K.In s.heap) (I : InstAt s.heap x ox C od) (hb : Looks (model prog w) s.heap (typeOf b) tb) (hn : notFirst K C tb = true) (hs : findIn K (.ref C) "__eq__" = some (some (.ref f))) (hf : isFn K (.ref f) = true)
    (hne : findIn K (.ref C) "__ne__" = some (some (.builtin "object.__ne__"))) (hm : mroIn K C (.type "object") = some true)
    (h : wpAny (model prog w) A.in1 (call (.ref f) [.ref x, b]) (BlBack fun c s' => Q (!c) s') E s) : wpAny (model prog w) A (richCompare .NotEq (.ref x) b) (BlBack Q) E s := by
  have one : wpAny (model prog w) A (tryCompare (.ref x) (cmpInfo .NotEq).2.1 b) (fun r s' => ∃ c, r = some (.bool c) ∧ Q c s') E s := by
    unfold tryCompare
    have bd : wpAny (model prog w) A (callSpecialIfBound? (.ref x) (cmpInfo .NotEq).2.1 [b]) (fun r s' => ∃ c, r = some (.bool c) ∧ Q c s') E s := by
      simp only [callSpecialIfBound?, bindSpecialIfBound?]
      refine wpAny_holding (wpAny_bind (wpAny_bind (wpAny_bind (I.type.here ((looks_findIn X hne).here ?_)))))
      refine wpAny_bind (wpAny_askSetting (wpAny_ite ?_))
      have fin : wpAny (model prog w) A (call (.builtin "object.__ne__") ([.ref x] ++ [b]) >>= fun v => pure (some v)) (fun r s' => ∃ c, r = some (.bool c) ∧ Q c s') E s :=
        wpAny_bind (wpAny_mono (ne_call (by omega) X I hs hf hm h) (fun v s' hv => by obtain ⟨c, rfl, q⟩ := hv; exact wpAny_pure ⟨c, rfl, q⟩) fun _ _ h' => h')
      split
      · refine wpAny_bind ?_
        rw [ne_bind]
        exact wpAny_pure (wpAny_pure fin)
      · refine wpAny_tryCatch (wpAny_bind ?_)
        rw [ne_bind]
        exact wpAny_pure (wpAny_pure fin)
    refine wpAny_bind (wpAny_mono bd (fun r s' hv => ?_) fun _ _ e => e)
    obtain ⟨c, rfl, q⟩ := hv
    exact wpAny_pure ⟨c, rfl, q⟩
  unfold richCompare
  simp only [oneThing_ref]
  refine wpAny_holding (wpAny_bind (wpAny_cRoomFor (by omega) ?_))
  refine wpAny_bind (I.type.here (wpAny_bind (hb.here ?_)))
  have back : ∀ s1, wpAny (model prog w) A (tryCompare (.ref x) (cmpInfo .NotEq).2.1 b) (fun r s' => ∃ c, r = some (.bool c) ∧ Q c s') E s1 → True := fun _ _ => trivial
  split
  · rename_i q
    have e : subIn K tb (.ref C) = some false := by
      rcases Bool.or_eq_true_iff.mp hn with e | e
      · rw [beq_iff_eq.mp e] at q; simp at q
      · exact beq_iff_eq.mp e
    refine wpAny_bind ((looks_subIn X e).here ?_)
    simp only [Bool.false_eq_true, if_false]
    refine wpAny_bind (wpAny_mono one (fun r s' z => ?_) fun _ _ e => e)
    obtain ⟨c, rfl, hq⟩ := z
    exact wpAny_pure ⟨c, rfl, hq⟩
  · refine wpAny_bind (wpAny_pure ?_)
    simp only [Bool.false_eq_true, if_false]
    refine wpAny_bind (wpAny_mono one (fun r s' z => ?_) fun _ _ e => e)
    obtain ⟨c, rfl, hq⟩ := z
    exact wpAny_pure ⟨c, rfl, hq⟩
end
/-- a class with an own __eq__ at f, which keeps sp -/
structure EqC (P : Program) (w : World) (K : PySem.W.Frag) (mg : Str → Option Value) (base : Heap) (k : Nat) (C : Addr) (sp : Sp) : Prop where
  ex : ∃ (f : Addr) (fd : FuncData) (ps : List Str), FnOk P w K mg base CX0 k f fd ps sp ∧ findIn K (.ref C) "__eq__" = some (some (.ref f)) ∧ isFn K (.ref f) = true ∧ Binds K fd ps []
  ne : findIn K (.ref C) "__ne__" = some (some (.builtin "object.__ne__"))
  mro : mroIn K C (.type "object") = some true
/-- what __eq__ of x and y tells, turned about where neg -/
def rOwn (K : PySem.W.Frag) (C : Addr) (sp : Sp) (neg : Bool) : R2 := fun x y H Q => ∃ (a dx : Addr) (fs : List (Str × V)) (tb : Value), x = .ref a ∧ H a = some (.ins C dx fs) ∧ TyX K H y tb ∧ notFirst K C tb = true ∧
  sp [x, y] H (fun v H' => ∃ c, v = .bl c ∧ Q (.bl (if neg = true then !c else c)) H') E0
section
variable {X : Cx} {C : Addr} {sp : Sp} {k : Nat}
theorem run_eq {A : Around} {pins : List (Addr × Obj)} {σ : L2.St} {H : Hp} {s : Shared} {x y : V} {u v : Value} {Q : Bool → Hp → Prop} {f : Addr} {fd : FuncData} {ps : List Str} (F : FnOk X.prog X.w X.K X.mg X.base CX0 k f fd ps sp) (hb : Binds X.K fd ps []) (hr : Room k A) (hA : A.frames = X.A.frames)
    (I : Inv X pins σ H s) (rx : RelV x u) (ry : RelV y v) (h : sp [x, y] H (fun z H' => ∃ c, z = .bl c ∧ Q c H') E0) : wpAny (model X.prog X.w) A (call (.ref f) [u, v]) (BlBack fun c s' => ∃ H', Inv X pins σ H' s' ∧ Q c H') X.xe s := by
  have e0 : Env0 X.prog X.w X.K X.mg X.base A X.stack s H := by
    have e := I.env0
    exact ⟨by rw [hA]; exact e.frames, e.mod, e.bs, e.bsz, e.funs, e.frf, e.hok, e.bare⟩
  have hl := F.len _ _ _ _ h
  have r2 : Vals [x, y] [u, v] := .cons rx (.cons ry .nil)
  refine wpAny_call (codeAny_mono (F.run A X.stack s H ⟨[u, v], []⟩ [u, v] [x, y] _ E0 hr e0 (by
    have := hb s [u, v] I.kIn (by simpa using hl)
    simpa using this) r2 h) fun r s' hq => ?_)
  cases r with
  | error e => exact (pass0 pins σ H s e s' I hq)
  | ok fl =>
    cases fl with
    | ret w =>
      obtain ⟨z, H', I', rz, c, ez, q⟩ := I.after hq
      subst ez
      exact ⟨c, rz, H', I', q⟩
    | next => exact False.elim hq
    | brk => exact False.elim hq
    | cont => exact False.elim hq
theorem op_eqOwn (D : EqC X.prog X.w X.K X.mg X.base k C sp) (hr : Room k X.A) : OpR X (compareOp .Eq) (rOwn X.K C sp false) := by
  intro pins s σ H x y v u Q I rx ry h
  obtain ⟨a, dx, fs, tb, rfl, ha, ty, hn, q⟩ := h
  obtain ⟨f, fd, ps, F, h1, h2, h3⟩ := D.ex
  obtain rfl : v = Value.ref a := rx
  obtain ⟨mA, J, _⟩ := ins_get I.hok ha
  obtain ⟨od, J, _⟩ := J.look
  obtain ⟨m, hF⟩ := I.fr
  obtain ⟨Pk, Z, pz, _⟩ := kit_of I ry ty
  refine cmp_K (op := .Eq) (tb := tb) hr.units0 hF I.ok.mod.kin J (Z.ty _ _ I.kIn pz) hn h1 h2 (wpAny_mono (run_eq (Q := fun c H' => Q (.bl c) H') F h3 hr rfl I (show RelV (V.ref a) (Value.ref a) from rfl) ry q) (fun z s' hz => ?_) fun _ _ e => e)
  obtain ⟨c, rfl, H', I', q'⟩ := hz
  exact ⟨.bl c, H', I', rfl, q'⟩
theorem op_neOwn (D : EqC X.prog X.w X.K X.mg X.base k C sp) (hr : Room (k + 1) X.A) (hu : X.A.units + 2 < cLine) : OpR X (compareOp .NotEq) (rOwn X.K C sp true) := by
  intro pins s σ H x y v u Q I rx ry h
  obtain ⟨a, dx, fs, tb, rfl, ha, ty, hn, q⟩ := h
  obtain ⟨f, fd, ps, F, h1, h2, h3⟩ := D.ex
  obtain rfl : v = Value.ref a := rx
  obtain ⟨mA, J, _⟩ := ins_get I.hok ha
  obtain ⟨od, J, _⟩ := J.look
  obtain ⟨Pk, Z, pz, _⟩ := kit_of I ry ty
  refine wpAny_mono (ne_own (Q := fun c s' => ∃ H', Inv X pins σ H' s' ∧ Q (.bl c) H') hu I.kIn J (Z.ty _ _ I.kIn pz) hn h1 h2 D.ne D.mro (wpAny_mono (run_eq (Q := fun c H' => Q (.bl (!c)) H') F h3 (A := X.A.in1) hr.in1 rfl I (show RelV (V.ref a) (Value.ref a) from rfl) ry q) (fun z s' hz => ?_) fun _ _ e => e)) (fun z s' hz => ?_) fun _ _ e => e
  · obtain ⟨c, rfl, H', I', q'⟩ := hz
    exact ⟨c, rfl, H', I', q'⟩
  · obtain ⟨c, rfl, H', I', q'⟩ := hz
    exact ⟨.bl c, H', I', rfl, q'⟩
end
end OwQ
set_option Elab.async false
set_option linter.all false
set_option maxRecDepth 100000
set_option maxHeartbeats 2000000
set_option Elab.async false
set_option linter.all false
set_option maxRecDepth 100000
set_option maxHeartbeats 8000000
namespace KT
open PySem L2 PyProof.Rows DTp TxS
section
variable {P : Program} {w : World} {K : PySem.W.Frag} {mg : Str → Option Value} {base : Heap} {C : Addr}
theorem KdIn.but {C : Addr} {H H' : Hp} {z x dx d l : Addr} {ws : List Str} {f : Str → Str → Str} (h : KdIn C H x dx d l ws f) (b : But z H H') (n1 : x ≠ z) (n2 : d ≠ z) (n3 : l ≠ z) : KdIn C H' x dx d l ws f := ⟨b x _ n1 h.ob, b d _ n2 h.dc, b l _ n3 h.ls, h.kw⟩
theorem tyX_mono {K : PySem.W.Frag} {H H' : Hp} {x : V} {t : Value} (s : L2.Same H H') (h : TyX K H x t) : TyX K H' x t := by
  cases h with
  | base b =>
    refine .base ?_
    cases b with
    | non => exact .non
    | bl x => exact .bl x
    | int i => exact .int i
    | str x => exact .str x
    | flt x => exact .flt x
    | lst e => exact .lst (s _ _ e)
    | frz e => exact .frz (s _ _ e)
    | tup e => exact .tup (s _ _ e)
    | dK e => exact .dK (s _ _ e)
    | dT e => exact .dT (s _ _ e)
    | ins e cl ha hn htk hm => exact .ins (s _ _ e) cl ha hn htk hm
  | byt b => exact .byt b
  | set e => exact .set (s _ _ e)
  | kList e c => exact .kList e c
  | kTuple e c => exact .kTuple e c
  | kDict e c => exact .kDict e c
  | fTuple e => exact .fTuple (s _ _ e)
  | fDict e => exact .fDict (s _ _ e)
/-- others than the Kinds of f over ws -/
def Oth (K : PySem.W.Frag) (C : Addr) (ws : List Str) (f : Str → Str → Str) (H : Hp) (x : V) : Prop := (∃ q ws2 f2, x = .ref q ∧ KdAt C H q ws2 f2 ∧ sameT (tabW ws f) (tabW ws2 f2) = false) ∨ ∃ t ∈ ["NoneType", "int", "dict", "list", "tuple"], TyX K H x (.type t)
theorem Oth.mono {ws : List Str} {f : Str → Str → Str} {H H' : Hp} {x : V} (s : L2.Same H H') (h : Oth K C ws f H x) : Oth K C ws f H' x := by
  rcases h with ⟨q, ws2, f2, e, kd, n⟩ | ⟨t, m, ty⟩
  · exact .inl ⟨q, ws2, f2, e, kd.mono s, n⟩
  · exact .inr ⟨t, m, tyX_mono s ty⟩
theorem dpAll_strs {H : Hp} : ∀ L : List Str, DpAll K H (L.map V.str) (L.map PyData.str)
  | [] => .nil
  | x :: L => .cons (.str x) (dpAll_strs L)
theorem dp_strs {H : Hp} {a : Addr} {L : List Str} (h : SqL K H a (L.map V.str)) : Dp K H (.ref a) (.list (L.map PyData.str)) := .lst h (dpAll_strs L)
theorem lay_strs : ∀ L : List Str, (∀ x ∈ L, Wd x) → PyData.canLayAll0 (L.map PyData.str) = true
  | [], _ => rfl
  | x :: L, h => by
    simp only [List.map_cons, PyData.canLayAll0, PyData.canLay0, Bool.and_eq_true]
    refine ⟨?_, lay_strs L fun y hy => h y (List.mem_cons_of_mem _ hy)⟩
    unfold PyData.strOk
    rw [Array.all_eq_true_iff_forall_mem]
    intro c hc
    have := (h x List.mem_cons_self).2.2 c (Array.mem_toList_iff.mpr hc)
    exact decide_eq_true (by omega)
theorem depth_strs : ∀ L : List Str, PyData.depthAll (L.map PyData.str) ≤ 2
  | [] => by simp [PyData.depthAll]
  | z :: zs => by
    have h1 := depth_strs zs
    simp only [List.map_cons, PyData.depthAll, PyData.depth]
    omega
theorem shaped_strs (L : List Str) (h : ∀ x ∈ L, Wd x) : SeqAt.shaped (.list (L.map PyData.str)) = true := by
  have h1 := depth_strs L
  have h2 : PyData.depth (.list (L.map PyData.str)) ≤ 64 := by
    simp only [PyData.depth]
    omega
  show (PyData.canLay0 (.list (L.map PyData.str)) && decide (PyData.depth (.list (L.map PyData.str)) ≤ 64)) = true
  rw [Bool.and_eq_true]
  exact ⟨by simp only [PyData.canLay0]; exact lay_strs L h, decide_eq_true h2⟩
end
end KT
set_option Elab.async false
set_option linter.all false
set_option maxRecDepth 100000
set_option maxHeartbeats 4000000
namespace TxS
open PySem PySem.Spec PySem.W PyProof.Rows L2
section
variable {P : Program} {w : World} {A : Around} {E : Value → Shared → Prop} {s : Shared}
/-- a new, empty set -/
abbrev bare (w : World) : Obj := { cls := .type "set", dict := none, data := .set #[] 0 (.fresh 0 0 (!w.params.followText "set-order")) }
end
section
variable {X : Cx}
/-- list(e.values()) -/
def tListVals (te : TE) : TE := fun σ H Q => te σ H fun x H1 => ∃ (d : Addr) (kvs : List (Key × V)), x = .ref d ∧ H1 d = some (.dK kvs) ∧ ∀ p, H1 p = none → Q (.ref p) (upd H1 p (.lst (kvs.map (·.2))))
theorem pe_listVals {e : Expr} {te : TE} {p apos cpos pos : Pos} (hc : X.calm = true) (he : PE X e te) (hg : Gl X "list") (hm : X.mg "list" = none) (hv : bootBuiltins "list" = some (.type "list") := by decide +kernel) (hb : attributeBase e "values" X.env (eval e X.env) = eval e X.env := by rfl)
    (hline : (apos.endLine == cpos.line) = true := by rfl) (hs : starEach [.Call (.Attribute e "values" apos) [] [] cpos] X.env = (false, eval (.Call (.Attribute e "values" apos) [] [] cpos) X.env) :: starEach [] X.env := by rfl) :
    PE X (.Call (.Name "list" p) [.Call (.Attribute e "values" apos) [] [] cpos] [] pos) (tListVals te) := by
  refine ⟨fun pins s σ H Q I q => wpAny_Call_Name_kw (ld_blt I hg hm hv (PyProof.Rows.callWith_type1 ?_ hs rfl))⟩
  rw [hs]
  refine Calls.spliced_cons (wpAny_Call_method (T := "dict") (id := "dict.values") hb rfl hline F.plainAttrs_dict F.slot_dict_values F.type_dict_values (thn (he.run pins s σ H _ I q) fun u s1 ⟨x, H1, I1, rx, d, kvs, ex, hd, q⟩ => ?_))
  subst ex
  obtain rfl : u = Value.ref d := rx
  obtain ⟨hz, lo, vs, kv, hdo⟩ := I1.hok d _ hd
  obtain ⟨ep, hat⟩ := hdo.dictAt
  refine ⟨hdo.typeIs, hdo.mapOf.noDict, method_meetsIn F.slot_dict_values F.entry_dict_values rfl (PySem.evalArgs_none ⟨rfl, hdo.typeIs, F.args_dict_values_1 _, _, meets_dict_values (mixKind X.prog X.w) d lo, ⟨vs, hdo⟩, Calls.spliced_nil ?_⟩)⟩
  have I2 : Inv X pins σ H1 { s1 with heap := s1.heap.push { cls := .type "dict_values", data := .fields #[.ref d] } } := I1.kept (t' := s1.toks) fun b ob q => Heap.get?_push_of_some _ q
  have len : kvs.length = vs.length := Paired.length kv
  refine kdl_call (kdl_values (knd := mixKind X.prog X.w) (kvs := vs) (ep := ep)) (I1.ok.hd hc) ⟨⟨_, Heap.get?_push_size _ rfl, rfl, rfl⟩, hat.push _⟩ (by omega) fun h' tk acc c keep hS its => ?_
  have acc_eq : acc.toList = vs.map (·.2) := kdl_vals_eq acc.toList (by rw [Array.length_toList]; exact its.1) fun j v hj => its.2 j v (by rw [← Array.getElem?_toList]; exact hj)
  have vals : Vals (kvs.map (·.2)) acc.toList := by
    rw [acc_eq]
    clear acc_eq its hS len q hat hd hdo I2 hz
    induction kv with
    | nil => exact .nil
    | cons r t ih => exact .cons r.2 ih
  exact ⟨.ref _, upd H1 _ (.lst (kvs.map (·.2))), I2.laid (t' := tk) keep (Nat.le_refl _) ⟨by rw [List.length_map]; omega, acc.toList, c, vals, hS⟩, rfl, q _ (I2.hok.fresh (Nat.le_refl _))⟩
end
end TxS
set_option Elab.async false
set_option linter.all false
set_option maxRecDepth 100000
set_option maxHeartbeats 4000000
namespace KT
open PySem L2 PyProof.Rows DTp TxS
def dkv (dl : List (Str × Str)) : List (Key × V) := dl.map fun p => (Sum.inr p.1, V.str p.2)
def keysD (dl : List (Str × Str)) : List Str := dl.map (·.1)
def kof (dl : List (Str × Str)) (x : Str) : Str := ((dl.find? fun p => decide (p.1 = x)).map (·.2)).getD ⟨#[]⟩
theorem dkv_keys (dl : List (Str × Str)) : (dkv dl).map (·.1) = (keysD dl).map Sum.inr := by
  unfold dkv keysD
  rw [List.map_map, List.map_map]
  rfl
theorem dkv_len (dl : List (Str × Str)) : (dkv dl).length = dl.length := by unfold dkv; rw [List.length_map]
theorem keysD_len (dl : List (Str × Str)) : (keysD dl).length = dl.length := by unfold keysD; rw [List.length_map]
theorem kof_cons (p : Str × Str) (dl : List (Str × Str)) (x : Str) : kof (p :: dl) x = if p.1 = x then p.2 else kof dl x := by
  unfold kof
  rw [List.find?_cons]
  by_cases h : p.1 = x
  · rw [decide_eq_true h, if_pos h]; rfl
  · rw [decide_eq_false h, if_neg h]
theorem kof_mem : ∀ {dl : List (Str × Str)}, (keysD dl).Nodup → ∀ {p : Str × Str}, p ∈ dl → kof dl p.1 = p.2
  | [], _, p, h => by cases h
  | q :: dl, n, p, h => by
    rw [kof_cons]
    have n2 := List.nodup_cons.mp (show (q.1 :: keysD dl).Nodup from n)
    rcases List.mem_cons.mp h with rfl | h
    · rw [if_pos rfl]
    · rw [if_neg (fun e => n2.1 (by rw [e]; exact List.mem_map.mpr ⟨p, h, rfl⟩))]
      exact kof_mem n2.2 h
theorem kof_pair {dl : List (Str × Str)} (n : (keysD dl).Nodup) {x : Str} (h : x ∈ keysD dl) : (x, kof dl x) ∈ dl := by
  obtain ⟨p, hp, rfl⟩ := List.mem_map.mp h
  rw [kof_mem n hp]
  exact hp
theorem valV_dkv {dl : List (Str × Str)} (n : (keysD dl).Nodup) {x : Str} (h : x ∈ keysD dl) : valV (dkv dl) (Sum.inr x) = some (.str (kof dl x)) := by
  refine valV_mem ?_ ?_
  · rw [dkv_keys]
    exact List.pairwise_map.mpr (List.Pairwise.imp (fun {a b} (ne : a ≠ b) e => ne (Sum.inr.inj e)) n)
  · exact List.mem_map.mpr ⟨(x, kof dl x), kof_pair n h, rfl⟩
theorem valV_no {dl : List (Str × Str)} {x : Str} (h : x ∉ keysD dl) : valV (dkv dl) (Sum.inr x) = none := by
  unfold valV dkv
  rw [List.find?_map, List.find?_eq_none.mpr]
  · rfl
  · intro p hp
    simp only [Function.comp, decide_eq_true_eq]
    intro e
    exact h (List.mem_map.mpr ⟨p, hp, Sum.inr.inj e⟩)
theorem perm_keys {d1 d2 : List (Str × Str)} (p : d1.Perm d2) : (keysD d1).Perm (keysD d2) := p.map _
theorem kof_perm {d1 d2 : List (Str × Str)} (p : d1.Perm d2) (n : (keysD d2).Nodup) {x : Str} (h : x ∈ keysD d2) : kof d1 x = kof d2 x := by
  have n1 : (keysD d1).Nodup := (perm_keys p).nodup_iff.mpr n
  exact kof_mem n1 (p.mem_iff.mpr (kof_pair n h))
/-- the list that the dict is, by its keys -/
theorem by_keys {dl : List (Str × Str)} (n : (keysD dl).Nodup) : (keysD dl).map (fun x => (x, kof dl x)) = dl := by
  unfold keysD
  rw [List.map_map]
  conv => rhs; rw [← List.map_id dl]
  refine List.map_congr_left fun p hp => ?_
  show (p.1, kof dl p.1) = p
  rw [kof_mem n hp]
theorem dkv_of {dl : List (Str × Str)} (n : (keysD dl).Nodup) : (keysD dl).map (fun x => ((Sum.inr x : Key), V.str (kof dl x))) = dkv dl := by
  have h := congrArg dkv (by_keys n)
  rw [← h]
  unfold dkv
  rw [List.map_map]
  rfl
theorem inr_nodup {α β : Type} {xs : List β} (h : xs.Nodup) : (xs.map (Sum.inr : β → α ⊕ β)).Nodup := List.pairwise_map.mpr (List.Pairwise.imp (fun {a b} (ne : a ≠ b) e => ne (Sum.inr.inj e)) h)
/-- a dict made of new keys is their list -/
theorem mergeK_strs {xs : List Str} {val : Str → V} (n : xs.Nodup) : mergeK [] (xs.map fun x => ((Sum.inr x : Key), val x)) = xs.map fun x => (Sum.inr x, val x) := by
  rw [mergeK_nd _ _ (by
    rw [List.nil_append, List.map_map]
    exact inr_nodup n)]
  rfl
theorem mergeK_snoc : ∀ (xs kvs : List (Key × V)) (p : Key × V), mergeK kvs (xs ++ [p]) = putK (mergeK kvs xs) p.1 p.2 := fun xs kvs p => by
  unfold mergeK
  rw [List.foldl_append]
  rfl
section
variable {K : PySem.W.Frag}
/-- [true for key in d] -/
theorem lkK_true {te0 : TE} {g : TG} {te : TE} {vs : List Nat} {σ : L2.St} {H : Hp} {Q : VK} {d : Addr} {kvs : List (Key × V)} (hi : ∀ od (R : VK), R (.ref d) (upd H d (.frz od (.dK kvs))) → te0 σ (upd H d (.frz od (.dK kvs))) R) (hd : H d = some (.dK kvs)) (few : kvs.length ≤ 1000)
    (step : ∀ (i : Nat) k v od H1 (R : VK), kvs[i]? = some (k, v) → L2.Same (upd H d (.frz od (.dK kvs))) H1 → (∀ H3, L2.Same H1 H3 → R (.bl true) H3) → g (kV k) (wipe σ vs) H1 fun σ2 H2 => wipe σ2 vs = wipe σ vs ∧ te σ2 H2 R)
    (k : ∀ D H', L2.Same H H' → H' D = some (.lst ((List.replicate kvs.length true).map V.bl)) → Q (.ref D) H') :
    tLockE (tLc (iKeys te0) g tYes te vs) σ H Q := by
  refine ⟨d, .dK kvs, hd, trivial, fun od => ?_⟩
  refine hi od _ ⟨d, od, rfl, .inl ⟨kvs, upd_same, fun D hD => ?_⟩⟩
  have nDd : D ≠ d := fun e => by rw [e, upd_same] at hD; cases hD
  refine lc_true walk_keys few hD (fun H' s => s _ _ upd_same) ?_ ?_
  · rintro i x H1 H1' R hi s1 ⟨rfl, kk, v, hk, rfl⟩ kR
    exact step i kk v od _ R hk s1 kR
  · intro H1 s1 hD1
    have hdl : H1 d = some (.frz od (.dK kvs)) := s1 _ _ upd_same
    refine ⟨hdl, k D _ (fun b o e => ?_) ((upd_ne nDd).trans hD1)⟩
    by_cases hb : b = d
    · rw [hb] at e ⊢
      rw [hd] at e
      rw [upd_same]; exact e
    · rw [upd_ne hb]
      exact s1 _ _ ((upd_ne hb).trans e)
/-- [true for value in d.values()] -/
theorem lkV_true {te0 : TE} {g : TG} {te : TE} {vs : List Nat} {σ : L2.St} {H : Hp} {Q : VK} {d : Addr} {kvs : List (Key × V)} (hi : ∀ od (R : VK), R (.ref d) (upd H d (.frz od (.dK kvs))) → te0 σ (upd H d (.frz od (.dK kvs))) R) (hd : H d = some (.dK kvs)) (few : kvs.length ≤ 1000)
    (step : ∀ (i : Nat) k v od H1 (R : VK), kvs[i]? = some (k, v) → L2.Same (upd H d (.frz od (.dK kvs))) H1 → (∀ H3, L2.Same H1 H3 → R (.bl true) H3) → g v (wipe σ vs) H1 fun σ2 H2 => wipe σ2 vs = wipe σ vs ∧ te σ2 H2 R)
    (k : ∀ D H', L2.Same H H' → H' D = some (.lst ((List.replicate kvs.length true).map V.bl)) → Q (.ref D) H') :
    tLockE (tLc (iVals te0) g tYes te vs) σ H Q := by
  refine ⟨d, .dK kvs, hd, trivial, fun od => ?_⟩
  refine hi od _ ⟨d, od, kvs, rfl, upd_same, fun D hD => ?_⟩
  have nDd : D ≠ d := fun e => by rw [e, upd_same] at hD; cases hD
  refine lc_true walk_values few hD (fun H' s => s _ _ upd_same) ?_ ?_
  · rintro i x H1 H1' R hi s1 ⟨rfl, kk, hk⟩ kR
    exact step i kk x od _ R hk s1 kR
  · intro H1 s1 hD1
    have hdl : H1 d = some (.frz od (.dK kvs)) := s1 _ _ upd_same
    refine ⟨hdl, k D _ (fun b o e => ?_) ((upd_ne nDd).trans hD1)⟩
    by_cases hb : b = d
    · rw [hb] at e ⊢
      rw [hd] at e
      rw [upd_same]; exact e
    · rw [upd_ne hb]
      exact s1 _ _ ((upd_ne hb).trans e)
/-- {key: value for text in list} -/
theorem dcS_list {key : Str → Str} {val : Str → V} {tl tk tv : TE} {tg iter : Expr} {ifs : List Expr} {g : TG} {vs : List Nat} {σ : L2.St} {H : Hp} {Q : VK} {xs : List Str} (Pd : Addr → Hp → Prop) (few : xs.length ≤ 1000)
    (hl : ∀ R : VK, (∀ l H1, H1 l = some (.lst (xs.map V.str)) → Pd l H1 → R (.ref l) H1) → tl σ H R)
    (step : ∀ l x H1 H2 (R : V → V → Hp → Prop) (Cn : L2.St → Hp → Prop), (∀ σ2 H3, (tk σ2 H3 fun y H4 => tv σ2 H4 fun z H5 => R y z H5) → Cn σ2 H3) → x ∈ xs → Pd l H1 → L2.Same H1 H2 → (∀ H3, L2.Same H2 H3 → R (.str (key x)) (val x) H3) → g (.str x) (wipe σ vs) H2 fun σ2 H3 => wipe σ2 vs = wipe σ vs ∧ Cn σ2 H3)
    (k : ∀ q l H1 H', Pd l H1 → L2.Same H1 H' → H1 q = none → H' q = some (.dK (mergeK [] (xs.map fun x => (Sum.inr (key x), val x)))) → Q (.ref q) H') :
    GC.tCo (fun _ => .dK []) ⟨tg, iter, ifs, iList K tl, g, tYes, vs⟩ [] (GC.emK tk tv) σ H Q := by
  refine hl _ fun l H1 h1 pd => ?_
  refine ⟨l, rfl, ⟨_, SqL.of h1⟩, fun D hD => ?_⟩
  refine GC.lp_it (walk_list (K := K) (a := l) (xs := xs.map V.str)) (fun n H' => L2.Same H1 H' ∧ H' D = some (.dK (mergeK [] ((xs.take n).map fun x => (Sum.inr (key x), val x))))) ?_ ?_ ?_ ?_
  · exact ⟨Same.new hD, upd_same⟩
  · rintro i H2 _ ⟨s2, _⟩
    exact SqL.of (s2 _ _ h1)
  · rintro n x H0 H2 hn ⟨s2, hD2⟩ ⟨rfl, hx⟩
    obtain ⟨y, ey, rfl⟩ := str_get hx
    refine step l y H1 _ (fun a z H3 => ∃ (kvs2 : List (Key × V)) (k : Key), a = kV k ∧ H3 D = some (.dK kvs2) ∧ kvs2.length < sizeLine ∧ (L2.Same H1 (upd H3 D (.dK (putK kvs2 k z))) ∧ (upd H3 D (.dK (putK kvs2 k z))) D = some (.dK (mergeK [] ((xs.take (n + 1)).map fun x => (Sum.inr (key x), val x)))))) _ (fun σ2 H3 hh => hh) (List.mem_of_getElem? ey) pd s2 fun H3 s3 => ?_
    refine ⟨_, Sum.inr (key y), rfl, s3 _ _ hD2, ?_, fun c o e => ?_, ?_⟩
    · have := length_mergeK ((xs.take n).map fun x => ((Sum.inr (key x) : Key), val x)) []
      rw [List.length_map, List.length_take, List.length_nil] at this
      exact small1000 (by omega)
    · rw [upd_ne (ne_of_none e hD)]
      exact s3 _ _ (s2 _ _ e)
    · rw [upd_same, take_next' ey, List.map_append]
      exact congrArg (fun z => some (HO.dK z)) (mergeK_snoc ((xs.take n).map fun x => ((Sum.inr (key x) : Key), val x)) [] (Sum.inr (key y), val y)).symm
  · rintro H2 ⟨s2, hD2⟩
    rw [List.length_map, List.take_length] at hD2
    exact k D l H1 H2 pd s2 hD hD2
/-- {key: value for text in dict} -/
theorem dcS_keys {key : Str → Str} {val : Str → V} {te0 tk tv : TE} {tg iter : Expr} {ifs : List Expr} {g : TG} {vs : List Nat} {σ : L2.St} {H : Hp} {Q : VK} {d : Addr} {kvs : List (Key × V)} {xs : List Str} (hi : ∀ od (R : VK), R (.ref d) (upd H d (.frz od (.dK kvs))) → te0 σ (upd H d (.frz od (.dK kvs))) R) (hd : H d = some (.dK kvs))
    (ek : kvs.map (·.1) = xs.map Sum.inr) (few : xs.length ≤ 1000)
    (step : ∀ x od H2 (R : V → V → Hp → Prop) (Cn : L2.St → Hp → Prop), (∀ σ2 H3, (tk σ2 H3 fun y H4 => tv σ2 H4 fun z H5 => R y z H5) → Cn σ2 H3) → x ∈ xs → L2.Same (upd H d (.frz od (.dK kvs))) H2 → (∀ H3, L2.Same H2 H3 → R (.str (key x)) (val x) H3) → g (.str x) (wipe σ vs) H2 fun σ2 H3 => wipe σ2 vs = wipe σ vs ∧ Cn σ2 H3)
    (k : ∀ q H', L2.Same H H' → H q = none → H' q = some (.dK (mergeK [] (xs.map fun x => (Sum.inr (key x), val x)))) → Q (.ref q) H') :
    tLockE (GC.tCo (fun _ => .dK []) ⟨tg, iter, ifs, iKeys te0, g, tYes, vs⟩ [] (GC.emK tk tv)) σ H Q := by
  have lk : kvs.length = xs.length := by have := congrArg List.length ek; rw [List.length_map, List.length_map] at this; exact this
  refine ⟨d, .dK kvs, hd, trivial, fun od => ?_⟩
  refine hi od _ ⟨d, od, rfl, .inl ⟨kvs, upd_same, fun D hD => ?_⟩⟩
  have nDd : D ≠ d := fun e => by rw [e, upd_same] at hD; cases hD
  have hD0 : H D = none := by rw [upd_ne nDd] at hD; exact hD
  refine GC.lp_it walk_keys (fun n H' => L2.Same (upd H d (.frz od (.dK kvs))) H' ∧ H' D = some (.dK (mergeK [] ((xs.take n).map fun x => (Sum.inr (key x), val x))))) ?_ ?_ ?_ ?_
  · exact ⟨Same.new hD, upd_same⟩
  · rintro i H2 _ ⟨s2, _⟩
    exact s2 _ _ upd_same
  · rintro n x H0 H2 hn ⟨s2, hD2⟩ ⟨rfl, kk, v, hk, rfl⟩
    have hn' : n < xs.length := by omega
    have ey : xs[n]? = some xs[n] := List.getElem?_eq_getElem hn'
    have ekk : kk = Sum.inr xs[n] := by
      have e3 := congrArg (fun l : List Key => l[n]?) ek
      simp only [List.getElem?_map, hk, ey] at e3
      exact Option.some.inj e3
    subst ekk
    obtain ⟨y, exy⟩ : ∃ y, y = xs[n] := ⟨_, rfl⟩
    rw [← exy] at ey ⊢
    refine step y od _ (fun a z H3 => ∃ (kvs2 : List (Key × V)) (k : Key), a = kV k ∧ H3 D = some (.dK kvs2) ∧ kvs2.length < sizeLine ∧ (L2.Same (upd H d (.frz od (.dK kvs))) (upd H3 D (.dK (putK kvs2 k z))) ∧ (upd H3 D (.dK (putK kvs2 k z))) D = some (.dK (mergeK [] ((xs.take (n + 1)).map fun x => (Sum.inr (key x), val x)))))) _ (fun σ2 H3 hh => hh) (List.mem_of_getElem? ey) s2 fun H3 s3 => ?_
    refine ⟨_, Sum.inr (key y), rfl, s3 _ _ hD2, ?_, fun c o e => ?_, ?_⟩
    · have := length_mergeK ((xs.take n).map fun x => ((Sum.inr (key x) : Key), val x)) []
      rw [List.length_map, List.length_take, List.length_nil] at this
      exact small1000 (by omega)
    · rw [upd_ne (ne_of_none e hD)]
      exact s3 _ _ (s2 _ _ e)
    · rw [upd_same, take_next' ey, List.map_append]
      exact congrArg (fun z => some (HO.dK z)) (mergeK_snoc ((xs.take n).map fun x => ((Sum.inr (key x) : Key), val x)) [] (Sum.inr (key y), val y)).symm
  · rintro H2 ⟨s2, hD2⟩
    rw [lk, List.take_length] at hD2
    have hdl : H2 d = some (.frz od (.dK kvs)) := s2 _ _ upd_same
    refine ⟨hdl, k D _ (fun b o e => ?_) hD0 ((upd_ne nDd).trans hD2)⟩
    by_cases hb : b = d
    · rw [hb] at e ⊢
      rw [hd] at e
      rw [upd_same]; exact e
    · rw [upd_ne hb]
      exact s2 _ _ ((upd_ne hb).trans e)
end
/-- deeds with their kinds, in any order -/
structure DlOk (ws : List Str) (dl : List (Str × Str)) : Prop where
  nd : (keysD dl).Nodup
  wd : ∀ x ∈ keysD dl, Wd x
  few : dl.length ≤ 8
  kd : ∀ p ∈ dl, p.2 ∈ ws
  all : ∀ x ∈ ws, ∃ p ∈ dl, p.2 = x
theorem DlOk.perm {ws : List Str} {d1 d2 : List (Str × Str)} (h : DlOk ws d2) (p : d1.Perm d2) : DlOk ws d1 :=
  ⟨(perm_keys p).nodup_iff.mpr h.nd, fun x hx => h.wd x ((perm_keys p).mem_iff.mp hx), by rw [p.length_eq]; exact h.few, fun q hq => h.kd q (p.mem_iff.mp hq), fun x hx => let ⟨q, m, e⟩ := h.all x hx; ⟨q, p.mem_iff.mpr m, e⟩⟩
theorem DlOk.kof {ws : List Str} {dl : List (Str × Str)} (h : DlOk ws dl) {x : Str} (hx : x ∈ keysD dl) : kof dl x ∈ ws := h.kd _ (kof_pair h.nd hx)
/-- kinds that may be done twice -/
structure TwOk (ws : List Str) (f : Str → Str → Str) (tw : List Str) : Prop where
  asc : Asc tw
  sq : ∀ x ∈ tw, x ∈ sqs ws f
theorem TwOk.len {ws : List Str} {f : Str → Str → Str} {tw : List Str} (h : TwOk ws f tw) (kw : KW ws f) : tw.length ≤ 4 :=
  Nat.le_trans (List.Nodup.length_le_of_subset h.asc.nodup fun x hx => (List.mem_filter.mp (h.sq x hx)).1) kw.few
def sflds (p d l : Addr) : List (Str × V) := putF "_twice" (.ref l) (putF "_deeds" (.ref d) (putF "_kinds" (.ref p) []))
/-- where a Setting's parts stand: itself, its Kinds, the Kinds' dict and list, its dict and list -/
structure SA where
  q : Addr
  dx : Addr
  p : Addr
  kx : Addr
  kd : Addr
  kl : Addr
  d : Addr
  l : Addr
def SA.all (A : SA) : List Addr := [A.q, A.p, A.kd, A.kl, A.d, A.l]
structure StIn (S C : Addr) (H : Hp) (A : SA) (ws : List Str) (f : Str → Str → Str) (dl : List (Str × Str)) (tw : List Str) : Prop where
  ob : H A.q = some (.ins S A.dx (sflds A.p A.d A.l))
  kin : KdIn C H A.p A.kx A.kd A.kl ws f
  dc : H A.d = some (.dK (dkv dl))
  ls : H A.l = some (.lst (tw.map V.str))
  ok : DlOk ws dl
  asc : Asc (keysD dl)
  tok : TwOk ws f tw
section
variable {S C : Addr} {ws : List Str} {f : Str → Str → Str} {dl : List (Str × Str)} {tw : List Str}
theorem StIn.mono {H H' : Hp} {A : SA} (s : L2.Same H H') (h : StIn S C H A ws f dl tw) : StIn S C H' A ws f dl tw :=
  ⟨s _ _ h.ob, ⟨s _ _ h.kin.ob, s _ _ h.kin.dc, s _ _ h.kin.ls, h.kin.kw⟩, s _ _ h.dc, s _ _ h.ls, h.ok, h.asc, h.tok⟩
theorem StIn.but {H H' : Hp} {A : SA} {z : Addr} (h : StIn S C H A ws f dl tw) (b : But z H H') (n : z ∉ A.all) : StIn S C H' A ws f dl tw := by
  simp only [SA.all, List.mem_cons, List.not_mem_nil, or_false, not_or] at n
  obtain ⟨n1, n2, n3, n4, n5, n6⟩ := n
  exact ⟨b _ _ (Ne.symm n1) h.ob, ⟨b _ _ (Ne.symm n2) h.kin.ob, b _ _ (Ne.symm n3) h.kin.dc, b _ _ (Ne.symm n4) h.kin.ls, h.kin.kw⟩, b _ _ (Ne.symm n5) h.dc, b _ _ (Ne.symm n6) h.ls, h.ok, h.asc, h.tok⟩
theorem StIn.some {H : Hp} {A : SA} (h : StIn S C H A ws f dl tw) : ∀ z ∈ A.all, H z ≠ none := by
  intro z hz e
  simp only [SA.all, List.mem_cons, List.not_mem_nil, or_false] at hz
  rcases hz with rfl | rfl | rfl | rfl | rfl | rfl
  · rw [h.ob] at e; cases e
  · rw [h.kin.ob] at e; cases e
  · rw [h.kin.dc] at e; cases e
  · rw [h.kin.ls] at e; cases e
  · rw [h.dc] at e; cases e
  · rw [h.ls] at e; cases e
theorem StIn.new {H : Hp} {A : SA} (h : StIn S C H A ws f dl tw) {z : Addr} (hz : H z = none) : z ∉ A.all := fun m => h.some z m hz
theorem PurseAt.strs {H : Hp} {p l : Addr} {B : Int} {xs : List Str} (hP : PurseAt H p B) (h : H l = .some (.lst (xs.map V.str))) : p ≠ l := by
  rintro rfl
  obtain ⟨a, b, c, d, e, _⟩ := hP
  rw [h] at e
  cases xs with
  | nil => cases e
  | cons x xs => cases e
theorem StIn.purse {H : Hp} {A : SA} {p : Addr} {B : Int} (h : StIn S C H A ws f dl tw) (hP : PurseAt H p B) : p ∉ A.all := by
  obtain ⟨a, b, c, d, e, _⟩ := id hP
  intro m
  simp only [SA.all, List.mem_cons, List.not_mem_nil, or_false] at m
  rcases m with rfl | rfl | rfl | rfl | rfl | rfl
  · rw [h.ob] at e; cases e
  · rw [h.kin.ob] at e; cases e
  · rw [h.kin.dc] at e; cases e
  · exact hP.strs h.kin.ls rfl
  · rw [h.dc] at e; cases e
  · exact hP.strs h.ls rfl
/-- a dict that is frozen is none of a Kinds' parts -/
theorem KdAt.frz {H : Hp} {p d : Addr} {kvs : List (Key × V)} {o : HO} (h : KdAt C H p ws f) (hd : H d = .some (.dK kvs)) : KdAt C (upd H d o) p ws f := by
  obtain ⟨dx, t, l, k⟩ := h
  refine ⟨dx, t, l, (upd_ne fun e => ?_).trans k.ob, (upd_ne fun e => ?_).trans k.dc, (upd_ne fun e => ?_).trans k.ls, k.kw⟩
  · have z := k.ob; rw [e, hd] at z; cases z
  · have z := k.dc; rw [e, hd] at z; cases z
  · have z := k.ls; rw [e, hd] at z; cases z
end
end KT
set_option Elab.async false
set_option linter.all false
set_option maxRecDepth 100000
set_option maxHeartbeats 4000000
namespace KT
open PySem L2 PyProof.Rows DTp TxS
section
variable {P : Program} {w : World} {K : PySem.W.Frag} {mg : Str → Option Value} {base : Heap} {C S : Addr}
theorem eqvAll_strs : ∀ xs ys : List Str, PyData.eqvAll (xs.map PyData.str) (ys.map PyData.str) = decide (xs = ys)
  | [], [] => by simp [PyData.eqvAll]
  | [], y :: ys => by simp [PyData.eqvAll]
  | x :: xs, [] => by simp [PyData.eqvAll]
  | x :: xs, y :: ys => by
    rw [List.map_cons, List.map_cons, PyData.eqvAll, eqvAll_strs xs ys, PyData.eqv]
    by_cases h : x = y
    · subst h; simp
    · rw [beq_eq_false_iff_ne.mpr h, Bool.false_and, decide_eq_false]
      intro e
      exact h (List.cons.inj e).1
theorem eqv_strs (xs ys : List Str) : PyData.eqv (.list (xs.map PyData.str)) (.list (ys.map PyData.str)) = decide (xs = ys) := by
  rw [PyData.eqv]
  exact eqvAll_strs xs ys
end
end KT
set_option Elab.async false
set_option linter.all false
set_option maxRecDepth 100000
set_option maxHeartbeats 4000000
namespace KT
open PySem L2 PyProof.Rows DTp TxS
/-- what the walk asks of the class Setting -/
structure STx (K : PySem.W.Frag) (mg : Str → Option Value) (S : Addr) : Prop where
  cl : L2.Cls K S
  nK : NoAttr K S "_kinds"
  nD : NoAttr K S "_deeds"
  nT : NoAttr K S "_twice"
  mgS : mg "Setting" = some (.ref S)
  ha : PySem.W.findIn K (.ref S) "__class__" = some (some (.builtin "object.__class__"))
  hn : PySem.W.specialIn K (.builtin "object.__class__") "__get__" = some (some (.builtin "getset_descriptor.__get__"))
  htk : PySem.W.takesIn K (.builtin "object.__class__") = some true
  hm : PySem.W.mroIn K S (.type "object") = some true
  own : PySem.W.kitOne K (.ref S) (.ref S) = some true
theorem STx.ty {K : PySem.W.Frag} {mg : Str → Option Value} {S p dx : Addr} {fs : List (Str × V)} {H : Hp} (T : STx K mg S) (h : H p = some (.ins S dx fs)) : TyX K H (.ref p) (.ref S) := .base (.ins h T.cl T.ha T.hn T.htk T.hm)
end KT
set_option Elab.async false
set_option linter.all false
set_option maxRecDepth 100000
set_option maxHeartbeats 4000000
namespace KT
open PySem L2 PyProof.Rows DTp TxS
def lp (f : Str → Str → Str) : List Str → Str
  | [] => ⟨#[]⟩
  | x :: xs => xs.foldl f x
section
variable {ws : List Str} {f : Str → Str → Str}
def stp (f : Str → Str → Str) (E : List Str) (k : Str) : List Str := E.map (fun w => f w k) ++ [k]
end
end KT
set_option Elab.async false
set_option linter.all false
set_option maxRecDepth 100000
set_option maxHeartbeats 4000000
set_option pp.maxSteps 600
namespace KT
open PySem L2 PyProof.Rows DTp TxS
section
variable {P : Program} {w : World} {K : PySem.W.Frag} {mg : Str → Option Value} {base : Heap} {C S : Addr}
/-- a log that is passed -/
structure LogAt (dl : List (Str × Str)) (H : Hp) (r : Addr) (row : List Str) : Prop where
  at' : H r = some (.lst (row.map V.str))
  few : row.length ≤ 100
  mem : ∀ x ∈ row, x ∈ keysD dl
theorem LogAt.mono {dl : List (Str × Str)} {H H' : Hp} {r : Addr} {row : List Str} (s : L2.Same H H') (h : LogAt dl H r row) : LogAt dl H' r row := ⟨s _ _ h.at', h.few, h.mem⟩
end
end KT
set_option Elab.async false
set_option linter.all false
set_option maxRecDepth 100000
set_option maxHeartbeats 4000000
set_option Elab.async false
set_option linter.all false
set_option maxRecDepth 100000
set_option maxHeartbeats 4000000
set_option pp.maxSteps 900
set_option Elab.async false
set_option linter.all false
set_option maxRecDepth 100000
set_option maxHeartbeats 4000000
set_option pp.maxSteps 900
set_option Elab.async false
set_option linter.all false
set_option maxRecDepth 100000
set_option maxHeartbeats 4000000
set_option pp.maxSteps 900
namespace KT
open PySem L2 PyProof.Rows DTp TxS
/-- dict(of pairs), the keys ints and texts -/
def rDP (K : PySem.W.Frag) : List V → Hp → VK → Prop := fun xs H Q => ∃ (a : Addr) (ps : List Addr) (kvs : List (Key × V)), xs = [.ref a] ∧ SqL K H a (ps.map V.ref) ∧ Paired (fun p kv => SqT K H p [kV kv.1, kv.2]) ps kvs ∧ ∀ p, H p = none → Q (.ref p) (upd H p (.dK (mergeK [] kvs)))
theorem cr_dictP {X : Cx} (hc : X.calm = true) : CallR X (.type "dict") (rDP X.K) := call_dictP hc
theorem tups_prT {K : PySem.W.Frag} {key : Str → Str} {val : Str → V} {H' : Hp} : ∀ {ps : List Addr} {xs : List Str}, Paired (fun t x => H' t = some (.tup [.str (key x), val x])) ps xs → Paired (fun p (kv : Key × V) => SqT K H' p [kV kv.1, kv.2]) ps (xs.map fun x => (Sum.inr (key x), val x))
  | _, _, .nil => .nil
  | _, _, .cons r t => .cons (SqT.of r) (tups_prT t)
/-- dict([(key, value) for text in list]) -/
theorem rdS_list {K : PySem.W.Frag} {key : Str → Str} {val : Str → V} {tl : TE} {g : TG} {te : TE} {vs : List Nat} {σ : L2.St} {H : Hp} {Q : VK} {xs : List Str} (Pd : Addr → Hp → Prop) (few : xs.length ≤ 1000)
    (hl : ∀ R : VK, (∀ l H1, H1 l = some (.lst (xs.map V.str)) → Pd l H1 → R (.ref l) H1) → tl σ H R)
    (step : ∀ l x H1 H2 (R : VK), x ∈ xs → Pd l H1 → L2.Same H1 H2 → (∀ t H3, L2.Same H2 H3 → H3 t = some (.tup [.str (key x), val x]) → R (.ref t) H3) → g (.str x) (wipe σ vs) H2 fun σ2 H3 => wipe σ2 vs = wipe σ vs ∧ te σ2 H3 R)
    (k : ∀ q l H1 H', Pd l H1 → L2.Same H1 H' → H1 q = none → H' q = some (.dK (mergeK [] (xs.map fun x => (Sum.inr (key x), val x)))) → Q (.ref q) H') :
    tCB (rDP K) (tCons (tLc (iList K tl) g tYes te vs) tNil) σ H Q := by
  dsimp only [tCB, tCons, tNil]
  refine ll_each (K := K) (fun l ys H1 => ys = xs.map V.str ∧ H1 l = some (.lst (xs.map V.str)) ∧ Pd l H1) (fun i y H' => ∃ t ys, y = .ref t ∧ H' t = some (.tup ys) ∧ ∃ x, xs[i]? = some x ∧ ys = [.str (key x), val x]) (StabF.tup _) (fun R hR => hl R fun l H1 h1 pd => hR l _ H1 ⟨rfl, h1, pd⟩ (SqL.of h1) (by rw [List.length_map]; exact few)) ?_ ?_ ?_
  · rintro l ys H1 H2 ⟨rfl, h1, _⟩ s
    exact SqL.of (s _ _ h1)
  · rintro l ys H0 i v H1 R ⟨rfl, h1, pd⟩ hx s kR
    obtain ⟨x, ex, rfl⟩ := str_get hx
    exact step l x H0 H1 R (List.mem_of_getElem? ex) pd s fun t H3 s3 ht => kR _ _ s3 ⟨t, _, rfl, ht, x, ex, rfl⟩
  · rintro l ys H0 D zs H' ⟨rfl, h1, pd⟩ s hD0 hD lz fz
    obtain ⟨ps, rfl, pr⟩ := refs_of (L := xs) (R := fun t x => H' t = some (.tup [.str (key x), val x])) (by rw [lz, List.length_map]) fun i y x h1 h2 => by
      obtain ⟨t, ys, e1, e2, x2, e3, e4⟩ := fz i y h1
      rw [h2] at e3
      obtain rfl := Option.some.inj e3
      exact ⟨t, e1, by rw [← e4]; exact e2⟩
    have pr2 := tups_prT (K := K) pr
    refine ⟨D, ps, _, rfl, SqL.of hD, pr2, fun q hq => k q l H0 _ pd (fun b o e => ?_) (s.free hq) upd_same⟩
    rw [upd_ne (ne_of_none (s _ _ e) hq)]
    exact s _ _ e
/-- the law's own view of a setting: a list of a table, a dict and a list -/
structure SetAt (H : Hp) (s td dd tl : Addr) (ws : List Str) (f : Str → Str → Str) (dl : List (Str × Str)) (tw : List Str) : Prop where
  hs : H s = some (.lst [.ref td, .ref dd, .ref tl])
  ht : H td = some (.dT (tabW ws f))
  hd : H dd = some (.dK (dkv dl))
  hl : H tl = some (.lst (tw.map V.str))
  kw : KW ws f
  ok : DlOk ws dl
  asc : Asc (keysD dl)
  tok : TwOk ws f tw
section
variable {ws : List Str} {f : Str → Str → Str} {dl : List (Str × Str)} {tw : List Str}
theorem SetAt.mono {H H' : Hp} {s td dd tl : Addr} (sm : L2.Same H H') (h : SetAt H s td dd tl ws f dl tw) : SetAt H' s td dd tl ws f dl tw := ⟨sm _ _ h.hs, sm _ _ h.ht, sm _ _ h.hd, sm _ _ h.hl, h.kw, h.ok, h.asc, h.tok⟩
theorem SetAt.but {H H' : Hp} {s td dd tl z : Addr} (h : SetAt H s td dd tl ws f dl tw) (b : But z H H') (n1 : s ≠ z) (n2 : td ≠ z) (n3 : dd ≠ z) (n4 : tl ≠ z) : SetAt H' s td dd tl ws f dl tw := ⟨b _ _ n1 h.hs, b _ _ n2 h.ht, b _ _ n3 h.hd, b _ _ n4 h.hl, h.kw, h.ok, h.asc, h.tok⟩
theorem SetAt.purse {H H' : Hp} {s td dd tl p : Addr} {B : Int} (h : SetAt H s td dd tl ws f dl tw) (hP : PurseAt H p B) (b : But p H H') : SetAt H' s td dd tl ws f dl tw := by
  obtain ⟨x1, x2, x3, x4, e, _⟩ := id hP
  refine h.but b (fun z => ?_) (fun z => ?_) (fun z => ?_) (Ne.symm (hP.strs h.hl))
  · have q := h.hs; rw [z, e] at q; cases q
  · have q := h.ht; rw [z, e] at q; cases q
  · have q := h.hd; rw [z, e] at q; cases q
theorem SetAt.new {H H' : Hp} {s td dd tl z : Addr} (h : SetAt H s td dd tl ws f dl tw) (hz : H z = none) (b : But z H H') : SetAt H' s td dd tl ws f dl tw :=
  h.but b (ne_of_none h.hs hz) (ne_of_none h.ht hz) (ne_of_none h.hd hz) (ne_of_none h.hl hz)
end
end KT
set_option Elab.async false
set_option linter.all false
set_option maxRecDepth 100000
set_option maxHeartbeats 4000000
set_option pp.maxSteps 900
namespace KT
open PySem L2 PyProof.Rows DTp TxS
section
variable {P : Program} {w : World} {K : PySem.W.Frag} {mg : Str → Option Value} {base : Heap} {C S : Addr}
def lenAt (H : Hp) : Option (Option V) → Nat
  | some (some (V.ref a)) => match H a with
    | some (HO.lst xs) => xs.length
    | _ => 0
  | _ => 0
theorem lenAt_of {H : Hp} {a : Addr} {xs : List V} (h : H a = some (.lst xs)) : lenAt H (some (some (.ref a))) = xs.length := by
  simp [lenAt, h]
def spLog : Sp := fun vs H Q _ => ∃ (p s td dd tl : Addr) (B : Int) (ws : List Str) (f : Str → Str → Str) (dl : List (Str × Str)) (tw : List Str) (n : Nat), vs = [.ref p, .ref s, .int (n : Nat)] ∧ PurseAt H p B ∧ 0 ≤ B ∧ B ≤ 950000 ∧ SetAt H s td dd tl ws f dl tw ∧ n ≤ 60 ∧
  ∀ q row H', But p H H' → PurseAt H' p (B + 800) → H q = none → LogAt dl H' q row → row.length = n → Q (.ref q) H'
abbrev nLog : List Str := ["_law_purse_here", "_law_setting_here", "_law_many", "_law_deeds", "_law_found", "_law_size"]
theorem scLog : FnScope nLog ["_law_purse_here", "_law_setting_here", "_law_many"] (defScope sLog) := ⟨rfl, rfl, rfl, by decide +kernel, rfl, by decide +kernel, by decide +kernel⟩
theorem ok_log {g : Addr} {fd : FuncData} (F : Fun K "_law_log" "_law_log" sLog g fd) (B0 : Blt mg) (Z : Blp mg) (Dr : DrawC P w K mg base) (On : Cee P w K mg base 3 "_law_one_of" ["_law_purse_here", "_law_some"] spOneOf) : FnOk P w K mg base CX0 4 g fd ["_law_purse_here", "_law_setting_here", "_law_many"] spLog := by
  refine F.ok scLog (fun vs H Q E h => ?_) (fun cdv A outer s H vs Q E hr h => ?_)
  · obtain ⟨p, s, td, dd, tl, B, ws, f, dl, tw, n, rfl, _⟩ := h
    rfl
  · obtain ⟨p, s0, td, dd, tl, B, ws, f, dl, tw, n, rfl, hP, b0, b1, se, n20, k⟩ := h
    have nd := scLog.nd
    refine ⟨_, pss_cons (ps_par (i := 3) (j := 4) rfl nd rfl rfl (by decide) rfl rfl (pa_cons (pe_callB (call_sortedD rfl) (by rfl) Z.sorted (by decide +kernel) (pa_cons (pe_ix ix_list (pv 1) pe_int (fun _ _ => rfl)) pa_nil)) (pa_cons (pe_lst pa_nil) pa_nil)) (by rfl))
      (pss_cons (ps_while PassesOwn.never (pt_cut <| pt_cmpR op_lt (pe_callB call_len_seq (by rfl) B0.len PySem.boot_len (pa_cons (pv 4) pa_nil)) (pv 2) (nomark _))
        (pss_one (ps_if (pt_cut <| PW.pt (pw_or (pt_cmpR (op_eqD hr.units) (pv 4) (pe_lst pa_nil) (nomark _)) (pw_or1 (pt_cmpR op_gt (pe_c Dr hr rfl (pa_cons (pv 0) (pa_cons pe_int pa_nil))) pe_int (nomark _)))))
          (pss_one (ps_expr (pe_bm PySem.F.plainAttrs_list PySem.F.slot_list_append PySem.F.type_list_append mt_append (pv 4) (pa_cons (pe_c On hr rfl (pa_cons (pv 0) (pa_cons (pv 3) pa_nil))) pa_nil))))
          (pss_cons (ps_set (i := 5) nd rfl (Or.inl rfl) (pe_op op_add pe_int (pe_c Dr hr rfl (pa_cons (pv 0) (pa_cons (pe_callB (call_min2 rfl) (by rfl) B0.min boot_min (pa_cons (pe_callB call_len_seq (by rfl) B0.len PySem.boot_len (pa_cons (pv 4) pa_nil)) (pa_cons pe_int pa_nil))) pa_nil)))))
          (pss_one (ps_set (i := 4) nd rfl (Or.inl rfl) (pe_op op_cat (pv 4) (pe_slice sl_list (pv 4) (po_some (pe_op op_sub (pe_callB call_len_seq (by rfl) B0.len PySem.boot_len (pa_cons (pv 4) pa_nil)) (pv 5))) po_none))))))))
      (pss_one (ps_ret (pe_slice sl_list (pv 4) po_none (po_some (pv 2)))))), ?_⟩
    have few := se.ok.few
    have one := se.kw.pos
    have pos : 0 < (keysD dl).length := by
      obtain ⟨x, hx⟩ := List.exists_mem_of_length_pos one
      obtain ⟨q, hq, _⟩ := se.ok.all x hx
      rw [keysD_len]
      exact List.length_pos_of_mem hq
    refine ⟨_, rfl, s0, _, 1, _, rfl, rfl, SqL.of se.hs, atI_nat (j := 1) rfl, dd, _, keysD dl, rfl, .inl se.hd, dkv_keys dl, by rw [keysD_len]; omega, fun ys D pm so hD => ?_⟩
    have ey : ys = keysD dl := (sortedS_asc so (pm.nodup_iff.mpr se.ok.nd)).eq se.asc pm
    subst ey
    have s1 := Same.new (H := H) (o := .lst ((keysD dl).map V.str)) hD
    have hD1 : upd H D (.lst ((keysD dl).map V.str)) D = _ := upd_same
    generalize upd H D (.lst ((keysD dl).map V.str)) = H1 at s1 hD1 ⊢
    refine ⟨by decide, fun L hL => ⟨_, _, rfl, ?_⟩⟩
    refine at_slots (σ' := [some (.ref p), some (.ref s0), some (.int (n : Nat)), some (.ref D), some (.ref L), none]) rfl ?_
    have s2 := Same.new (H := H1) (o := .lst []) hL
    have hL2 : upd H1 L (.lst []) L = _ := upd_same
    have hLH := s1.free hL
    have nDL : D ≠ L := ne_of_none hD1 hL
    have npL : p ≠ L := (hP.mono s1).ne hL
    have npD : p ≠ D := hP.ne hD
    have hD2 := s2 _ _ hD1
    have s02 := s1.trans s2
    generalize upd H1 L (.lst []) = H2 at s2 hL2 hD2 s02 ⊢
    have b02 : But p H H2 := Same.asBut s02
    refine while_by (fun σ H' => ∃ (Fd : Addr) (row : List Str) (x5 : Option V), σ = [some (.ref p), some (.ref s0), some (.int (n : Nat)), some (.ref D), some (.ref Fd), x5] ∧ But p H H' ∧ PurseAt H' p (B + 12 * row.length) ∧ H Fd = none ∧ Fd ≠ D ∧ p ≠ Fd ∧ H' D = some (.lst ((keysD dl).map V.str)) ∧ H' Fd = some (.lst (row.map V.str)) ∧ row.length ≤ n + 5 ∧ ∀ x ∈ row, x ∈ keysD dl)
      (fun σ H' => n + 6 - lenAt H' σ[4]?) ?_ ?_ (fun σ H Q Q' i ⟨Pn, h, kk⟩ => ⟨Pn, h, fun b H' q => i _ _ (kk _ _ q)⟩)
    · exact ⟨L, [], none, rfl, b02, (hP.mono s02).le (by simp), hLH, Ne.symm nDL, npL, hD2, hL2, by simp, fun x hx => by cases hx⟩
    · rintro σ H3 ⟨Fd, row, x5, rfl, b3, hP3, hF0, nFD, npF, hD3, hF3, lrow, mrow⟩
      refine ⟨fun b H' => H' = H3 ∧ b = decide ((row.length : Int) < (n : Nat)), ?_, ?_⟩
      · refine ⟨_, rfl, Fd, _, rfl, .inl (SqL.of hF3), _, rfl, _, _, rfl, rfl, _, rfl, rfl, ?_⟩
        rw [List.length_map]
      rintro b H3 ⟨rfl, rfl⟩
      refine ite2 (fun hlt => ?_) (fun hge => ?_)
      · have hlt := of_decide_eq_true hlt
        have hlt' : row.length < n := by omega
        have mu : n + 6 - lenAt H3 ([some (V.ref p), some (.ref s0), some (.int (n : Nat)), some (.ref D), some (.ref Fd), x5] : L2.St)[4]? = n + 6 - row.length := by
          rw [show ([some (V.ref p), some (.ref s0), some (.int (n : Nat)), some (.ref D), some (.ref Fd), x5] : L2.St)[4]? = some (some (.ref Fd)) from rfl, lenAt_of hF3, List.length_map]
        refine ⟨fun b H' => But p H H' ∧ PurseAt H' p (B + 12 * row.length + 4) ∧ H' D = some (.lst ((keysD dl).map V.str)) ∧ H' Fd = some (.lst (row.map V.str)) ∧ (b = false → row ≠ []), ?_, ?_⟩
        · refine ⟨_, rfl, by decide, fun e he => ?_⟩
          have t1 := Same.new (H := H3) (o := .lst []) he
          have he1 : upd H3 e (.lst []) e = some (.lst (([] : List Str).map V.str)) := upd_same
          generalize upd H3 e (.lst []) = H4 at t1 he1 ⊢
          have wd : ∀ x ∈ row, Wd x := fun x hx => se.ok.wd x (mrow x hx)
          refine ⟨_, _, dp_strs (SqL.of (t1 _ _ hF3)), dp_strs (SqL.of he1), shaped_strs _ wd, shaped_strs _ (fun x hx => by cases hx), _, rfl, ?_⟩
          rw [eqv_strs]
          refine ite2 (fun z => ?_) (fun z => ?_)
          · exact ⟨b3.same t1, (hP3.mono t1).le (by omega), t1 _ _ hD3, t1 _ _ hF3, fun e => by cases e⟩
          · have z : row ≠ [] := by simpa using z
            refine ⟨_, rfl, p, 3, _, rfl, hP3.mono t1, by omega, by omega, by decide, by decide, fun r H5 bt5 hP5 r0 r1 => ?_⟩
            refine ⟨_, _, rfl, rfl, _, rfl, ?_⟩
            exact ⟨(b3.same t1).trans bt5, hP5, bt5 _ _ (Ne.symm npD) (t1 _ _ hD3), bt5 _ _ (Ne.symm npF) (t1 _ _ hF3), fun _ => z⟩
        · rintro b H4 ⟨b4, hP4, hD4, hF4, ne4⟩
          refine ite2 (fun hb => ?_) (fun hb => ?_)
          · refine ⟨_, rfl, .inl ⟨rfl, _, SqL.of hF4⟩, _, rfl, _, rfl, p, D, _, _, rfl, npD, hP4, by omega, by omega, hD4, by rw [List.length_map]; exact pos, by rw [List.length_map, keysD_len]; omega, fun x H5 hx bt5 hP5 => ?_⟩
            obtain ⟨y, my, rfl⟩ := List.mem_map.mp hx
            have hF5 := bt5 _ _ (Ne.symm npF) hF4
            have hD5 := bt5 _ _ (Ne.symm npD) hD4
            refine ⟨Fd, _, _, rfl, rfl, hF5, by rw [List.length_map]; exact small1000 (by omega), ?_⟩
            refine ⟨⟨Fd, row ++ [y], x5, rfl, (b4.trans bt5).fresh hF0, ?_, hF0, nFD, npF, (upd_ne nFD.symm).trans hD5, ?_, ?_, ?_⟩, ?_⟩
            · rw [List.length_append, List.length_singleton]
              exact (hP5.upd npF).le (by omega)
            · rw [upd_same, List.map_append]; rfl
            · rw [List.length_append, List.length_singleton]; omega
            · intro z hz
              rcases List.mem_append.mp hz with hz | hz
              · exact mrow z hz
              · rw [List.mem_singleton.mp hz]; exact my
            · rw [mu]
              have e1 : lenAt (upd H5 Fd (.lst (row.map V.str ++ [.str y]))) ([some (V.ref p), some (.ref s0), some (.int (n : Nat)), some (.ref D), some (.ref Fd), x5] : L2.St)[4]? = row.length + 1 := by
                refine (lenAt_of upd_same).trans ?_
                rw [List.length_append, List.length_map, List.length_singleton]
              rw [e1]
              omega
          · have hne := ne4 (by simpa using hb)
            have l1 : 1 ≤ row.length := List.length_pos_iff.mpr hne
            refine ⟨_, rfl, _, rfl, Fd, _, rfl, .inl (SqL.of hF4), _, _, rfl, ?_⟩
            rw [List.length_map]
            obtain ⟨c, ec, c1, c5, cl⟩ : ∃ c : Nat, (if (5 : Int) < (row.length : Nat) then (5 : Int) else (row.length : Nat)) = (c : Nat) ∧ 1 ≤ c ∧ c ≤ 5 ∧ c ≤ row.length := by
              by_cases z : (5 : Int) < (row.length : Nat)
              · exact ⟨5, by rw [if_pos z]; rfl, by omega, by omega, by omega⟩
              · exact ⟨row.length, by rw [if_neg z], by omega, by omega, by omega⟩
            rw [ec]
            refine ⟨p, c, _, rfl, hP4, by omega, by omega, by omega, by omega, fun r H5 bt5 hP5 r0 r1 => ?_⟩
            obtain ⟨m, rfl⟩ := nat_of (m := 0) r0
            refine ⟨_, _, rfl, rfl, ?_⟩
            refine at_name (σ' := [some (.ref p), some (.ref s0), some (.int (n : Nat)), some (.ref D), some (.ref Fd), some (.int (1 + (m : Nat)))]) rfl ?_
            have hF5 := bt5 _ _ (Ne.symm npF) hF4
            have hD5 := bt5 _ _ (Ne.symm npD) hD4
            refine ⟨_, rfl, _, rfl, _, rfl, Fd, _, rfl, .inl (SqL.of hF5), _, rfl, _, _, rfl, rfl, _, rfl, Fd, _, rfl, SqL.of hF5, fun t ht => ?_⟩
            rw [List.length_map]
            have em : ((row.length : Nat) : Int) - (1 + (m : Nat)) = ((row.length - (1 + m) : Nat) : Int) := by omega
            rw [em, cut_from _ _ (by rw [List.length_map]; omega), ← List.map_drop]
            have t6 := Same.new (H := H5) (o := .lst ((row.drop (row.length - (1 + m))).map V.str)) ht
            have ht6 : upd H5 t (.lst ((row.drop (row.length - (1 + m))).map V.str)) t = _ := upd_same
            generalize upd H5 t (.lst ((row.drop (row.length - (1 + m))).map V.str)) = H6 at t6 ht6 ⊢
            have ld : (row.drop (row.length - (1 + m))).length = 1 + m := by rw [List.length_drop]; omega
            refine ⟨Fd, t, _, _, rfl, rfl, t6 _ _ hF5, ht6, by rw [List.length_map, List.length_map, sizeLine_eq, ld]; omega, fun q hq => ?_⟩
            refine at_name (σ' := [some (.ref p), some (.ref s0), some (.int (n : Nat)), some (.ref D), some (.ref q), some (.int (1 + (m : Nat)))]) rfl ?_
            have b6 : But p H H6 := (b4.trans bt5).same t6
            have hP6 := hP5.mono t6
            have npq : p ≠ q := hP6.ne hq
            have nqD : q ≠ D := fun e => by rw [e, t6 _ _ hD5] at hq; cases hq
            refine ⟨⟨q, row ++ row.drop (row.length - (1 + m)), _, rfl, b6.new hq, ?_, b6.free hP6 hq, nqD, npq, (upd_ne nqD.symm).trans (t6 _ _ hD5), ?_, ?_, ?_⟩, ?_⟩
            · rw [List.length_append, ld]
              exact (hP6.upd npq).le (by omega)
            · rw [upd_same, List.map_append]
            · rw [List.length_append, ld]; omega
            · intro z hz
              rcases List.mem_append.mp hz with hz | hz
              · exact mrow z hz
              · exact mrow z (List.mem_of_mem_drop hz)
            · rw [mu]
              have e1 : lenAt (upd H6 q (.lst (row.map V.str ++ (row.drop (row.length - (1 + m))).map V.str))) ([some (V.ref p), some (.ref s0), some (.int (n : Nat)), some (.ref D), some (.ref q), some (.int (1 + (m : Nat)))] : L2.St)[4]? = row.length + (1 + m) := by
                refine (lenAt_of upd_same).trans ?_
                rw [List.length_append, List.length_map, List.length_map, ld]
              rw [e1]
              omega
      · have hge : n ≤ row.length := Nat.le_of_not_lt fun z => hge (decide_eq_true (by omega))
        refine ⟨_, rfl, _, rfl, _, rfl, Fd, _, rfl, SqL.of hF3, fun q hq => ?_⟩
        rw [cut_to _ _ (by rw [List.length_map]; exact hge), ← List.map_take]
        have lt : (row.take n).length = n := by rw [List.length_take]; omega
        have npq : p ≠ q := hP3.ne hq
        exact k q (row.take n) _ (b3.new hq) ((hP3.upd npq).le (by omega)) (b3.free hP3 hq) ⟨upd_same, by omega, fun x hx => mrow x (List.mem_of_mem_take hx)⟩ lt
end
end KT
set_option Elab.async false
set_option linter.all false
set_option maxRecDepth 100000
set_option maxHeartbeats 4000000
set_option pp.maxSteps 900
namespace KT
open PySem L2 PyProof.Rows DTp TxS
def rLtI : R2 := fun x y H Q => ∃ i j, x = .int i ∧ y = .int j ∧ Q (.bl (decide (i < j))) H
theorem op_ltI {X : Cx} : OpR X (compareOp .Lt) rLtI := op_lt
def rLenS (K : PySem.W.Frag) : List V → Hp → VK → Prop := fun xs H Q => ∃ p ys, xs = [.ref p] ∧ (SqL K H p ys ∨ SqT K H p ys) ∧ Q (.int ys.length) H
theorem cr_lenS {X : Cx} : CallR X (.builtin "len") (rLenS X.K) := call_len_seq
/-- pairs of words and kinds, made one by one -/
structure DlPv (G : Hp) (p D : Addr) (B : Int) (W ws : List Str) (j : Nat) (H : Hp) : Prop where
  bt : But p G H
  hP : PurseAt H p (B + 4 * j)
  ls : ∃ (ts : List Addr) (L : List (Str × Str)), H D = some (.lst (ts.map V.ref)) ∧ Paired (fun t q => H t = some (.tup [.str q.1, .str q.2])) ts L ∧ keysD L = W.take j ∧ (∀ q ∈ L, q.2 ∈ ws) ∧ ∀ i, i < j → i < ws.length → (L.map (·.2))[i]? = ws[i]?
theorem paired_snoc {α β : Type} {F : α → β → Prop} {xs : List α} {ys : List β} {x : α} {y : β} (h : Paired F xs ys) (r : F x y) : Paired F (xs ++ [x]) (ys ++ [y]) := paired_append h (.cons r .nil)
theorem tups_dkv {K : PySem.W.Frag} {H : Hp} : ∀ {ts : List Addr} {L : List (Str × Str)}, Paired (fun t q => H t = some (.tup [.str q.1, .str q.2])) ts L → Paired (fun p (kv : Key × V) => SqT K H p [kV kv.1, kv.2]) ts (dkv L)
  | _, _, .nil => .nil
  | _, _, .cons r t => .cons (SqT.of r) (tups_dkv t)
section
variable {P : Program} {w : World} {K : PySem.W.Frag} {mg : Str → Option Value} {base : Heap} {C S : Addr}
def spSetting : Sp := fun vs H Q _ => ∃ (p : Addr) (B : Int) (mo : Nat), vs = [.ref p, .int mo] ∧ 0 < mo ∧ mo ≤ 4 ∧ PurseAt H p B ∧ 0 ≤ B ∧ B ≤ 800000 ∧
  ∀ s td dd tl ws f dl tw H', But p H H' → PurseAt H' p (B + 4000) → SetAt H' s td dd tl ws f dl tw → Q (.ref s) H'
abbrev nSetting : List Str := ["_law_purse_here", "_law_most", "_law_table_here", "_law_kinds", "_law_words_here", "_law_deeds", "_law_twice", "_law_word_here", "_law_at", "_law_kind"]
theorem scSetting : FnScope nSetting ["_law_purse_here", "_law_most"] (defScope sSetting) := ⟨rfl, rfl, rfl, by decide +kernel, rfl, by decide +kernel, by decide +kernel⟩
structure SetC (P : Program) (w : World) (K : PySem.W.Frag) (mg : Str → Option Value) (base : Heap) : Prop where
  tab : Cee P w K mg base 5 "_law_table" ["_law_purse_here", "_law_most"] spTable
  kof : Cee P w K mg base 1 "_law_kinds_of" ["_law_table_here"] spKindsOf
  sqr : Cee P w K mg base 2 "_law_squares" ["_law_table_here"] spSquares
  wor : Cee P w K mg base 4 "_law_words" ["_law_purse_here", "_law_many"] spWords
  draw : DrawC P w K mg base
  one : Cee P w K mg base 3 "_law_one_of" ["_law_purse_here", "_law_some"] spOneOf
  hen : mg "enumerate" = none
theorem ok_setting {g : Addr} {fd : FuncData} (F : Fun K "_law_setting" "_law_setting" sSetting g fd) (B0 : Blt mg) (Z : Blp mg) (M : SetC P w K mg base) : FnOk P w K mg base CX0 6 g fd ["_law_purse_here", "_law_most"] spSetting := by
  refine F.ok scSetting (fun vs H Q E h => ?_) (fun cdv A outer s H vs Q E hr h => ?_)
  · obtain ⟨p, B, mo, rfl, _⟩ := h
    rfl
  · obtain ⟨p, B, mo, rfl, mo0, mo4, hP, b0, b1, k⟩ := h
    have nd := scSetting.nd
    refine ⟨_, pss_cons (ps_set (i := 2) nd rfl (Or.inl rfl) (pe_c M.tab hr rfl (pa_cons (pv 0) (pa_cons (pv 1) pa_nil))))
      (pss_cons (ps_set (i := 3) nd rfl (Or.inr rfl) (pe_c M.kof hr rfl (pa_cons (pv 2) pa_nil)))
      (pss_cons (ps_set (i := 4) nd rfl (Or.inl rfl) (pe_c M.wor hr rfl (pa_cons (pv 0) (pa_cons (pe_op op_add (pe_callB cr_lenS (by rfl) B0.len PySem.boot_len (pa_cons (pv 3) pa_nil)) (pe_c M.draw hr rfl (pa_cons (pv 0) (pa_cons pe_int pa_nil)))) pa_nil))))
      (pss_cons (ps_set (i := 5) nd rfl (Or.inr rfl) (pe_callTy (cr_dictP rfl) (by rfl) Z.dict (by decide +kernel) (pa_cons
        (pe_lc (own := [("_law_word_here", 7), ("_law_at", 8)]) (g := gXY K 8 7) (tt := tYes) (te := tTup (tCons (tVar 7) (tCons (tIf (tTest (tOp rLtI (tVar 8) (tCB (rLenS K) (tCons (tVar 3) tNil)))) (tOp (rIxL K) (tVar 3) (tVar 8)) (tCall spOneOf [] E0 (tCons (tVar 0) (tCons (tVar 3) tNil)))) tNil))) rfl nd (pi_enum (by rfl) M.hen (pa_cons (pv 4) pa_nil)) (blkOk_by (own := [("_law_word_here", 7), ("_law_at", 8)]) (N := nSetting) (sc := defScope sSetting) (by decide +kernel))
          (fun _ _ _ _ _ => pg_tup rfl (pgs_cons (pg_name (i := 8) nd rfl (Or.inl rfl)) (pgs_cons (pg_name (i := 7) nd rfl (Or.inl rfl)) pgs_nil))) (fun _ _ _ _ _ => pts_nil)
          (fun _ _ _ _ _ => pe_tup (pa_cons (pv 7) (pa_cons (pe_ifExp (pt_cmpR op_ltI (pv 8) (pe_callB cr_lenS (by rfl) B0.len PySem.boot_len (pa_cons (pv 3) pa_nil)) (nomark _)) (pe_ix ix_list (pv 3) (pv 8) (fun _ _ => rfl)) (pe_c M.one hr rfl (pa_cons (pv 0) (pa_cons (pv 3) pa_nil)))) pa_nil)))) pa_nil)))
      (pss_cons (ps_set (i := 6) nd rfl (Or.inl rfl) (pe_c M.sqr hr rfl (pa_cons (pv 2) pa_nil)))
      (pss_cons (ps_cut (ps_if (pt_cmpR op_eq (pe_c M.draw hr rfl (pa_cons (pv 0) (pa_cons pe_int pa_nil))) pe_int (nomark _)) (pss_one (ps_setLc (i := 6) (own := [("_law_kind", 9)]) (g := gName 9) (tt := tTest (tOp rEq (tCall spDraw [] E0 (tCons (tVar 0) (tCons (tC (.int 2)) tNil))) (tC (.int 0)))) (te := tVar 9) rfl nd rfl rfl (sw_true rfl rfl rfl (by decide +kernel)) (pi_list (pv 6)) (blkOk_by (own := [("_law_kind", 9)]) (N := nSetting) (sc := defScope sSetting) (by decide +kernel))
          (fun _ _ _ _ _ => pg_name (i := 9) nd rfl (Or.inl rfl)) (fun _ _ _ _ _ => pts_one (pt_cmpR op_eq (pe_c M.draw hr rfl (pa_cons (pv 0) (pa_cons pe_int pa_nil))) pe_int (nomark _))) (fun _ _ _ _ _ => pv 9))) pss_nil))
      (pss_one (ps_ret (pe_lst (pa_cons (pv 2) (pa_cons (pe_callTy (cr_dictP rfl) (by rfl) Z.dict (by decide +kernel) (pa_cons
        (pe_lc (own := [("_law_word_here", 7)]) (g := gName 7) (tt := tYes) (te := tTup (tCons (tVar 7) (tCons (tDGet (tVar 5) (tVar 7)) tNil))) rfl nd (pi_list (pe_callB (call_sortedD rfl) (by rfl) Z.sorted (by decide +kernel) (pa_cons (pv 5) pa_nil))) (blkOk_by (own := [("_law_word_here", 7)]) (N := nSetting) (sc := defScope sSetting) (by decide +kernel))
          (fun _ _ _ _ _ => pg_name (i := 7) nd rfl (Or.inl rfl)) (fun _ _ _ _ _ => pts_nil) (fun _ _ _ _ _ => pe_tup (pa_cons (pv 7) (pa_cons (pe_dget (hu_of hr) (pv 5) (pv 7) (fun _ _ => rfl)) pa_nil)))) pa_nil)) (pa_cons (pv 6) pa_nil))))))))))), ?_⟩
    refine ⟨_, rfl, _, rfl, p, B, mo, rfl, mo0, mo4, hP, b0, by omega, fun td ws f H1 htd0 bt1 hP1 htd kw => ?_⟩
    refine at_name (σ' := [some (.ref p), some (.int (mo : Nat)), some (.ref td), none, none, none, none, none, none, none]) rfl ?_
    refine ⟨_, rfl, td, ws, f, rfl, htd, kw, fun kl H2 s2 hkl0 hkl => ?_⟩
    refine at_name (σ' := [some (.ref p), some (.int (mo : Nat)), some (.ref td), some (.ref kl), none, none, none, none, none, none]) rfl ?_
    have l4 := kw.few
    have l1 := kw.pos
    have hP2 := hP1.mono s2
    refine ⟨_, rfl, _, rfl, kl, _, rfl, .inl (SqL.of hkl), _, rfl, p, 3, _, rfl, hP2, by omega, by omega, by decide, by decide, fun r H3 bt3 hP3 r0 r1 => ?_⟩
    obtain ⟨m, rfl⟩ := nat_of (m := 0) r0
    rw [List.length_map]
    refine ⟨_, _, rfl, rfl, p, _, _, rfl, hP3, by omega, by omega, by omega, by omega, fun wl W H4 hwl0 bt4 hP4 hwl lW wdW ndW => ?_⟩
    refine at_name (σ' := [some (.ref p), some (.int (mo : Nat)), some (.ref td), some (.ref kl), some (.ref wl), none, none, none, none, none]) rfl ?_
    have lW' : W.length = ws.length + m := by omega
    have npk : p ≠ kl := hP2.strs hkl
    have npt : p ≠ td := by
      rintro rfl
      obtain ⟨_, _, _, _, e, _⟩ := hP1
      rw [htd] at e; cases e
    have hk4 := bt4 _ _ (Ne.symm npk) (bt3 _ _ (Ne.symm npk) hkl)
    have ht4 := bt4 _ _ (Ne.symm npt) (bt3 _ _ (Ne.symm npt) (s2 _ _ htd))
    have npw : p ≠ wl := hP4.strs hwl
    have b04 : But p H H4 := ((bt1.same s2).trans bt3).trans bt4
    refine ⟨_, rfl, wl, _, rfl, SqL.of hwl, fun D hD => ?_⟩
    have npD : p ≠ D := hP4.ne hD
    refine lc_it (walk_enum (K := K) (a := wl) (xs := W.map V.str)) (DlPv H4 p D (B + 2000 + 4 + 1000) W ws) ?_ ?_ ?_ ?_
    · exact ⟨(But.refl p H4).new hD, (hP4.upd npD).le (by omega), [], [], upd_same, .nil, rfl, (fun q hq => by cases hq), fun i h => by omega⟩
    · intro i H' _ pv
      exact SqL.of (pv.bt _ _ (Ne.symm npw) hwl)
    · rintro i v H5 H6 hi ⟨bt5, hP5, ts, L, hD5, pr, ks, mk, hk⟩ ⟨q, a, b, rfl, hq, rfl, ha, hb⟩
      rw [List.length_map] at hi
      obtain ⟨x, ex, rfl⟩ := str_get hb
      obtain rfl := Option.some.inj ha
      have nqD : D ≠ q := ne_of_none hD5 hq
      have npq : p ≠ q := hP5.ne hq
      have s6 := Same.new (H := H5) (o := .tup [.int (i : Nat), .str x]) hq
      have hq6 : upd H5 q (.tup [.int (i : Nat), .str x]) q = _ := upd_same
      generalize upd H5 q (.tup [.int (i : Nat), .str x]) = H6 at s6 hq6 ⊢
      refine ⟨q, _, rfl, SqT.of hq6, rfl, _, _, rfl, ?_⟩
      refine at_name (σ' := [some (.ref p), some (.int (mo : Nat)), some (.ref td), some (.ref kl), some (.ref wl), none, none, none, some (.int (i : Nat)), none]) rfl ⟨_, _, rfl, ?_⟩
      refine at_name (σ' := [some (.ref p), some (.int (mo : Nat)), some (.ref td), some (.ref kl), some (.ref wl), none, none, some (.str x), some (.int (i : Nat)), none]) rfl ⟨rfl, rfl, yes_if ?_⟩
      have hk6 := s6 _ _ (bt5 _ _ (Ne.symm npk) hk4)
      have hP6 := hP5.mono s6
      have fin : ∀ H7 y t, But p H6 H7 → PurseAt H7 p (B + 2000 + 4 + 1000 + 4 * i + 4) → y ∈ ws → (i < ws.length → ws[i]? = some y) → H7 t = none → ∃ acc, upd H7 t (.tup [.str x, .str y]) D = some (.lst acc) ∧ acc.length < sizeLine ∧ DlPv H4 p D (B + 2000 + 4 + 1000) W ws (i + 1) (upd (upd H7 t (.tup [.str x, .str y])) D (.lst (acc ++ [V.ref t]))) := by
        intro H7 y t bt7 hP7 my hy ht
        have s7 := Same.new (H := H7) (o := .tup [.str x, .str y]) ht
        have ht7 : upd H7 t (.tup [.str x, .str y]) t = _ := upd_same
        have npt2 : p ≠ t := hP7.ne ht
        have hP8 := hP7.mono s7
        generalize upd H7 t (.tup [.str x, .str y]) = H8 at s7 ht7 hP8 ⊢
        have hD8 := s7 _ _ (bt7 _ _ (Ne.symm npD) (s6 _ _ hD5))
        have ltD : t ≠ D := ne_of ht7 hD8 (by intro z; cases z)
        have lts : ts.length = i := by
          rw [pr.length]
          have := congrArg List.length ks
          rw [keysD_len, List.length_take] at this
          omega
        refine ⟨_, hD8, by rw [List.length_map]; exact small1000 (by omega), ?_, (hP8.upd npD).le (by omega), ts ++ [t], L ++ [(x, y)], ?_, ?_, ?_, ?_, ?_⟩
        · refine But.fresh ?_ hD
          exact fun b o n e => s7 _ _ (bt7 b o n (s6 _ _ (bt5 b o n e)))
        · rw [upd_same, List.map_append]; rfl
        · refine paired_snoc (Paired.mapP pr fun t2 q2 h => ?_) ((upd_ne ltD).trans ht7)
          have n1 : t2 ≠ D := ne_of h hD5 (by intro z; cases z)
          have n2 : t2 ≠ p := fun e => by
            obtain ⟨_, _, _, _, e3, _⟩ := hP5
            rw [e, e3] at h; cases h
          exact (upd_ne n1).trans (s7 _ _ (bt7 _ _ n2 (s6 _ _ h)))
        · rw [take_next' ex]
          unfold keysD at ks ⊢
          rw [List.map_append, ks]
          rfl
        · intro z hz
          rcases List.mem_append.mp hz with hz | hz
          · exact mk z hz
          · rw [List.mem_singleton.mp hz]; exact my
        · intro j hj hj2
          have lL : (L.map (·.2)).length = i := by rw [List.length_map, ← pr.length]; exact lts
          rw [List.map_append]
          by_cases e : j < i
          · rw [List.getElem?_append_left (by omega)]
            exact hk j e hj2
          · have e2 : j = i := by omega
            subst e2
            rw [List.getElem?_append_right (by omega), lL, Nat.sub_self, hy hj2]
            rfl
      refine ⟨_, rfl, _, rfl, _, rfl, kl, _, rfl, .inl (SqL.of hk6), _, _, rfl, rfl, _, rfl, ?_⟩
      rw [List.length_map]
      refine ite2 (fun z => ?_) (fun z => ?_)
      · have hlt : i < ws.length := by have := of_decide_eq_true z; omega
        have ei : ws[i]? = some ws[i] := List.getElem?_eq_getElem hlt
        refine ⟨_, rfl, _, rfl, kl, _, _, _, rfl, rfl, SqL.of hk6, atI_nat (j := i) (by rw [List.getElem?_map, ei]; rfl), (by show 2 ≤ sizeLine; decide), fun t ht => ?_⟩
        exact fin H6 ws[i] t (But.refl _ _) (hP6.le (by omega)) (List.getElem_mem hlt) (fun _ => ei) ht
      · have hge : ¬ i < ws.length := fun q => z (decide_eq_true (by omega))
        refine ⟨_, rfl, _, rfl, p, kl, _, _, rfl, npk, hP6, by omega, by omega, hk6, by rw [List.length_map]; omega, by rw [List.length_map]; omega, fun y H7 hy bt7 hP7 => ⟨(by show 2 ≤ sizeLine; decide), fun t ht => ?_⟩⟩
        obtain ⟨y, my, rfl⟩ := List.mem_map.mp hy
        exact fin H7 y t bt7 hP7 my (fun q => absurd q hge) ht
    · rintro H5 ⟨bt5, hP5, ts, L, hD5, pr, ks, mk, hk⟩
      rw [List.length_map, List.take_length] at ks
      rw [List.length_map] at hP5 hk
      have okL : DlOk ws L := {
        nd := by rw [ks]; exact ndW
        wd := by rw [ks]; exact wdW
        few := by have := congrArg List.length ks; rw [keysD_len] at this; omega
        kd := mk
        all := fun x hx => by
          obtain ⟨i, hi⟩ := List.mem_iff_getElem?.mp hx
          obtain ⟨hlt, _⟩ := List.getElem?_eq_some_iff.mp hi
          have := hk i (by omega) hlt
          rw [hi] at this
          obtain ⟨z, hz, e⟩ := List.mem_map.mp (List.mem_of_getElem? this)
          exact ⟨z, hz, e⟩ }
      refine ⟨D, ts, dkv L, rfl, SqL.of hD5, tups_dkv pr, fun dl0 hdl => ?_⟩
      have e1 : mergeK [] (dkv L) = dkv L := by
        rw [mergeK_nd _ _ (by
          rw [List.nil_append, dkv_keys]
          exact inr_nodup okL.nd), List.nil_append]
      rw [e1]
      have s6 := Same.new (H := H5) (o := .dK (dkv L)) hdl
      have hd6 : upd H5 dl0 (.dK (dkv L)) dl0 = _ := upd_same
      generalize upd H5 dl0 (.dK (dkv L)) = H6 at s6 hd6 ⊢
      refine at_name (σ' := [some (.ref p), some (.int (mo : Nat)), some (.ref td), some (.ref kl), some (.ref wl), some (.ref dl0), none, none, none, none]) rfl ?_
      have ht6 := s6 _ _ (bt5 _ _ (Ne.symm npt) ht4)
      have hP6 := hP5.mono s6
      have b06 : But p H H6 := (b04.trans bt5).same s6
      refine ⟨_, rfl, td, ws, f, rfl, ht6, kw, fun sq H7 s7 hsq0 hsq => ?_⟩
      refine at_name (σ' := [some (.ref p), some (.int (mo : Nat)), some (.ref td), some (.ref kl), some (.ref wl), some (.ref dl0), some (.ref sq), none, none, none]) rfl ?_
      have hP7 := hP6.mono s7
      have ht7 := s7 _ _ ht6
      have hd7 := s7 _ _ hd6
      have npd : p ≠ dl0 := by
        rintro rfl
        obtain ⟨_, _, _, _, e, _⟩ := hP6
        rw [hd6] at e; cases e
      have nps : p ≠ sq := hP7.strs hsq
      have asq : Asc (sqs ws f) := List.Pairwise.sublist List.filter_sublist kw.asc
      refine ⟨fun σ' H' => ∃ (tl : Addr) (tw : List Str), σ' = [some (.ref p), some (.int (mo : Nat)), some (.ref td), some (.ref kl), some (.ref wl), some (.ref dl0), some (.ref tl), none, none, none] ∧ But p H7 H' ∧ PurseAt H' p (B + 3500) ∧ H' tl = some (.lst (tw.map V.str)) ∧ tw.Sublist (sqs ws f), ?_, ?_⟩
      · refine ⟨_, rfl, p, 2, _, rfl, hP7, by omega, by omega, by decide, by decide, fun r2 H8 bt8 hP8 r20 r21 => ⟨rfl, _, rfl, ?_⟩⟩
        have hsq8 := bt8 _ _ (Ne.symm nps) hsq
        refine ite2 (fun z => ?_) (fun z => ?_)
        · refine ⟨_, rfl, sq, rfl, ⟨_, SqL.of hsq8⟩, fun E2 hE => ?_⟩
          have npE : p ≠ E2 := hP8.ne hE
          have lsq : (sqs ws f).length ≤ 4 := Nat.le_trans (List.length_filter_le _ _) l4
          refine lc_it (walk_list (K := K) (a := sq) (xs := (sqs ws f).map V.str)) (fun j H' => But p H8 H' ∧ PurseAt H' p (B + 2000 + 4 + 1000 + 4 * W.length + 4 + 4 * j) ∧ ∃ tw : List Str, H' E2 = some (.lst (tw.map V.str)) ∧ tw.Sublist ((sqs ws f).take j)) ?_ ?_ ?_ ?_
          · exact ⟨(But.refl p H8).new hE, (hP8.upd npE).le (by omega), [], upd_same, List.nil_sublist _⟩
          · rintro j H' _ ⟨bt9, _⟩
            exact SqL.of (bt9 _ _ (Ne.symm nps) hsq8)
          · rintro j v H9' H9 hj ⟨bt9, hP9, tw, hE9, sub⟩ ⟨rfl, hx⟩
            rw [List.length_map] at hj
            obtain ⟨x, ex, rfl⟩ := str_get hx
            refine at_name (σ' := [some (.ref p), some (.int (mo : Nat)), some (.ref td), some (.ref kl), some (.ref wl), some (.ref dl0), some (.ref sq), none, none, some (.str x)]) rfl ⟨rfl, ?_⟩
            refine ⟨_, rfl, p, 2, _, rfl, hP9, by omega, by omega, by decide, by decide, fun r3 H10 bt10 hP10 _ _ => ⟨rfl, _, rfl, ?_⟩⟩
            have hE10 := bt10 _ _ (Ne.symm npE) hE9
            have ltw : tw.length ≤ 4 := Nat.le_trans sub.length_le (by rw [List.length_take]; omega)
            rw [take_next' ex]
            refine ite2 (fun z => ?_) (fun z => ?_)
            · refine ⟨_, rfl, _, hE10, by rw [List.length_map]; exact small1000 (by omega), (bt9.trans bt10).fresh hE, (hP10.upd npE).le (by omega), tw ++ [x], ?_, sub.append_right [x]⟩
              rw [upd_same, List.map_append]; rfl
            · exact ⟨bt9.trans bt10, hP10.le (by omega), tw, hE10, sub.trans (List.sublist_append_left _ _)⟩
          · rintro H9 ⟨bt9, hP9, tw, hE9, sub⟩
            rw [List.length_map] at hP9 sub
            rw [List.take_length] at sub
            refine at_name (σ' := [some (.ref p), some (.int (mo : Nat)), some (.ref td), some (.ref kl), some (.ref wl), some (.ref dl0), some (.ref E2), none, none, none]) rfl ?_
            exact ⟨E2, tw, rfl, bt8.trans bt9, hP9.le (by omega), hE9, sub⟩
        · exact ⟨sq, sqs ws f, rfl, bt8, hP8.le (by omega), hsq8, List.Sublist.refl _⟩
      · rintro σ' H8 ⟨tl, tw, rfl, bt8, hP8, htl8, sub⟩
        have ht8 := bt8 _ _ (Ne.symm npt) ht7
        have hd8 := bt8 _ _ (Ne.symm npd) hd7
        have nas : (keysD L).Nodup := okL.nd
        have asc2 := ascOf_asc nas
        obtain ⟨dl, edl⟩ : ∃ dl : List (Str × Str), dl = (ascOf (keysD L)).map fun x => (x, kof L x) := ⟨_, rfl⟩
        have kdl : keysD dl = ascOf (keysD L) := by
          rw [edl]
          unfold keysD
          rw [List.map_map]
          exact List.map_id _
        have pdl : dl.Perm L := by
          rw [edl]
          have q := (ascOf_perm (keysD L)).map fun x => (x, kof L x)
          rw [by_keys nas] at q
          exact q
        have dkl : ((ascOf (keysD L)).map fun x => ((Sum.inr x : Key), V.str (kof L x))) = dkv dl := by
          rw [edl]
          unfold dkv
          rw [List.map_map]
          rfl
        have l8 : L.length ≤ 8 := okL.few
        refine ⟨_, rfl, ?_⟩
        refine rdS_list (key := fun x => x) (val := fun x => .str (kof L x)) (xs := ascOf (keysD L)) (fun _ H' => L2.Same H8 H') (by rw [(ascOf_perm _).length_eq, keysD_len]; omega) ?_ ?_ ?_
        · intro R hR
          refine ⟨_, rfl, dl0, _, keysD L, rfl, .inl hd8, dkv_keys L, by rw [keysD_len]; omega, fun ys t pm so ht => ?_⟩
          have ey : ys = ascOf (keysD L) := (sortedS_asc so (pm.nodup_iff.mpr nas)).eq asc2 (pm.trans (ascOf_perm _).symm)
          subst ey
          exact hR t _ upd_same (Same.new ht)
        · intro l x H9 H10 R hx s9 s10 kR
          have mx : x ∈ keysD L := (ascOf_perm _).mem_iff.mp hx
          have dg := DGet.k (k := Sum.inr x) (s10 _ _ (s9 _ _ hd8))
          rw [valV_dkv nas mx] at dg
          refine at_name (σ' := [some (.ref p), some (.int (mo : Nat)), some (.ref td), some (.ref kl), some (.ref wl), some (.ref dl0), some (.ref tl), some (.str x), none, none]) rfl ⟨rfl, ?_⟩
          exact ⟨_, rfl, _, rfl, _, rfl, dl0, _, rfl, dg, (by show 2 ≤ sizeLine; decide), fun t ht => kR t _ (Same.new ht) upd_same⟩
        · intro dd l H9 H10 s9 s10 hdd0 hdd
          rw [mergeK_strs asc2.nodup, dkl] at hdd
          refine ⟨_, rfl, (by show 3 ≤ sizeLine; decide), fun s2 hs2 => ?_⟩
          have s11 := Same.new (H := H10) (o := .lst [.ref td, .ref dd, .ref tl]) hs2
          have s811 := s9.trans (s10.trans s11)
          exact k s2 td dd tl ws f dl tw _ (((b06.same s7).trans bt8).same s811) ((hP8.mono s811).le (by omega)) ⟨upd_same, s811 _ _ ht8, s11 _ _ hdd, s811 _ _ htl8, kw, okL.perm pdl, by rw [kdl]; exact asc2, ⟨List.Pairwise.sublist sub asq, fun x hx => sub.subset hx⟩⟩
end
end KT
set_option Elab.async false
set_option linter.all false
set_option maxRecDepth 100000
set_option maxHeartbeats 4000000
set_option pp.maxSteps 900
namespace KT
open PySem L2 PyProof.Rows DTp TxS
theorem alike_strs {H : Hp} {a b : Addr} {L : List Str} (n : Nat) (ha : H a = some (.lst (L.map V.str))) (hb : H b = some (.lst (L.map V.str))) (few : L.length ≤ 100) : Alike (n + 2) H (.ref a) (.ref b) := by
  refine .inr (.inl ⟨a, b, _, _, rfl, rfl, ha, hb, by rw [List.length_map]; exact few, paired_of rfl fun i x y hx hy => ?_⟩)
  rw [hx] at hy
  obtain rfl := Option.some.inj hy
  obtain ⟨z, _, rfl⟩ := str_get hx
  exact .inl (.inl ⟨z, rfl, rfl⟩)
theorem alike_dkv {H : Hp} {a b : Addr} {dl : List (Str × Str)} (n : Nat) (ha : H a = some (.dK (dkv dl))) (hb : H b = some (.dK (dkv dl))) (nd : (keysD dl).Nodup) (few : dl.length ≤ 100) : Alike (n + 3) H (.ref a) (.ref b) :=
  .inr (.inr (.inr (.inr ⟨a, b, _, keysD dl, by omega, rfl, rfl, ha, hb, dkv_keys dl, nd, fun p hp => by
    obtain ⟨q, _, rfl⟩ := List.mem_map.mp hp
    exact .inl ⟨_, rfl, rfl⟩, by rw [keysD_len]; exact few⟩)))
end KT
set_option Elab.async false
set_option linter.all false
set_option maxRecDepth 100000
set_option maxHeartbeats 4000000
set_option pp.maxSteps 900
set_option Elab.async false
set_option linter.all false
set_option maxRecDepth 100000
set_option maxHeartbeats 2000000
namespace DKq
open PySem PySem.Spec PyProof.Rows L2
def hitK (ls : List (Key × V)) (p : Key × V) : Bool := match valV ls p.1 with
  | some v => eqV p.2 v
  | none => false
def sameK (ks ls : List (Key × V)) : Bool := ks.length == ls.length && ks.all (hitK ls)
def FlV (kvs : List (Key × V)) : Prop := ∀ p ∈ kvs, flatV p.2 = true
theorem FlV.val {ls : List (Key × V)} (h : FlV ls) {k : Key} {v : V} (e : valV ls k = some v) : flatV v = true := by
  unfold valV at e
  obtain ⟨p, h1, rfl⟩ := Option.map_eq_some_iff.mp e
  exact h p (List.mem_of_find?_eq_some h1)
end DKq
set_option Elab.async false
set_option linter.all false
set_option maxRecDepth 100000
set_option maxHeartbeats 4000000
set_option pp.maxSteps 900
namespace KT
open PySem L2 PyProof.Rows DTp TxS DKq
theorem sameK_iff {dl d2 : List (Str × Str)} (n : (keysD dl).Nodup) (n2 : (keysD d2).Nodup) : sameK (dkv dl) (dkv d2) = true ↔ dl.length = d2.length ∧ ∀ p ∈ dl, p ∈ d2 := by
  unfold sameK
  rw [Bool.and_eq_true, beq_iff_eq, dkv_len, dkv_len, List.all_eq_true]
  constructor
  · rintro ⟨h1, h2⟩
    refine ⟨h1, fun p hp => ?_⟩
    have h := h2 (Sum.inr p.1, V.str p.2) (List.mem_map.mpr ⟨p, hp, rfl⟩)
    unfold hitK at h
    by_cases m : p.1 ∈ keysD d2
    · rw [show (Sum.inr p.1, V.str p.2).1 = (Sum.inr p.1 : Key) from rfl, valV_dkv n2 m] at h
      have e : p.2 = kof d2 p.1 := beq_iff_eq.mp (show (p.2 == kof d2 p.1) = true from h)
      have q := kof_pair n2 m
      rw [← e] at q
      exact q
    · rw [show (Sum.inr p.1, V.str p.2).1 = (Sum.inr p.1 : Key) from rfl, valV_no m] at h
      exact absurd h Bool.false_ne_true
  · rintro ⟨h1, h2⟩
    refine ⟨h1, fun q hq => ?_⟩
    obtain ⟨p, hp, rfl⟩ := List.mem_map.mp hq
    have m := h2 p hp
    unfold hitK
    rw [show (Sum.inr p.1, V.str p.2).1 = (Sum.inr p.1 : Key) from rfl, valV_dkv n2 (List.mem_map.mpr ⟨p, m, rfl⟩), kof_mem n2 m]
    exact beq_self_eq_true p.2
theorem sameK_self {dl : List (Str × Str)} (n : (keysD dl).Nodup) : sameK (dkv dl) (dkv dl) = true := (sameK_iff n n).mpr ⟨rfl, fun _ h => h⟩
section
variable {P : Program} {w : World} {K : PySem.W.Frag} {mg : Str → Option Value} {base : Heap} {C S : Addr}
def sameS (ws : List Str) (f : Str → Str → Str) (dl : List (Str × Str)) (tw ws2 : List Str) (f2 : Str → Str → Str) (d2 : List (Str × Str)) (tw2 : List Str) : Bool := sameT (tabW ws f) (tabW ws2 f2) && (sameK (dkv dl) (dkv d2) && decide (tw = tw2))
end
end KT
set_option Elab.async false
set_option linter.all false
set_option maxRecDepth 100000
set_option maxHeartbeats 4000000
set_option pp.maxSteps 900
namespace KT
open PySem L2 PyProof.Rows DTp TxS DKq
theorem mergeK_dkv {L : List (Str × Str)} (n : (keysD L).Nodup) : mergeK [] (dkv L) = dkv L := by
  rw [mergeK_nd _ _ (by
    rw [List.nil_append, dkv_keys]
    exact inr_nodup n), List.nil_append]
section
variable {P : Program} {w : World} {K : PySem.W.Frag} {mg : Str → Option Value} {base : Heap} {C S : Addr}
/-- dict([(key, value) for text in a dict]) -/
theorem rdS_keysE {key : Str → Str} {val : Str → V} {te0 : TE} {g : TG} {te : TE} {vs : List Nat} {σ : L2.St} {H : Hp} {Q : VK} {d : Addr} {kvs : List (Key × V)} {xs : List Str} (hi : ∀ od (R : VK), R (.ref d) (upd H d (.frz od (.dK kvs))) → te0 σ (upd H d (.frz od (.dK kvs))) R) (hd : H d = some (.dK kvs))
    (ek : kvs.map (·.1) = xs.map Sum.inr) (few : xs.length ≤ 1000)
    (step : ∀ x od H1 (R : VK), x ∈ xs → L2.Same (upd H d (.frz od (.dK kvs))) H1 → (∀ t H3, L2.Same H1 H3 → H3 t = some (.tup [.str (key x), val x]) → R (.ref t) H3) → g (.str x) (wipe σ vs) H1 fun σ2 H2 => wipe σ2 vs = wipe σ vs ∧ te σ2 H2 R)
    (k : ∀ q H', L2.Same H H' → H q = none → H' q = some (.dK (mergeK [] (xs.map fun x => (Sum.inr (key x), val x)))) → Q (.ref q) H') :
    tCB (rDP K) (tCons (tLockE (tLc (iKeys te0) g tYes te vs)) tNil) σ H Q := by
  have lk : kvs.length = xs.length := by have := congrArg List.length ek; rw [List.length_map, List.length_map] at this; exact this
  refine ⟨d, .dK kvs, hd, trivial, fun od => ?_⟩
  refine hi od _ ⟨d, od, rfl, .inl ⟨kvs, upd_same, fun D hD => ?_⟩⟩
  have nDd : D ≠ d := fun e => by rw [e, upd_same] at hD; cases hD
  have hD0 : H D = none := by rw [upd_ne nDd] at hD; exact hD
  refine lc_it walk_keys (fun n H' => L2.Same (upd H d (.frz od (.dK kvs))) H' ∧ ∃ ps : List Addr, H' D = some (.lst (ps.map V.ref)) ∧ Paired (fun t x => H' t = some (.tup [.str (key x), val x])) ps (xs.take n)) ?_ ?_ ?_ ?_
  · exact ⟨Same.new hD, [], upd_same, by rw [List.take_zero]; exact .nil⟩
  · rintro i H2 _ ⟨s2, _⟩
    exact s2 _ _ upd_same
  · rintro n x H0 H2 hn ⟨s2, ps, hD2, pr⟩ ⟨rfl, kk, v, hk, rfl⟩
    have hn' : n < xs.length := by omega
    have ey : xs[n]? = some xs[n] := List.getElem?_eq_getElem hn'
    have ekk : kk = Sum.inr xs[n] := by
      have e3 := congrArg (fun l : List Key => l[n]?) ek
      simp only [List.getElem?_map, hk, ey] at e3
      exact Option.some.inj e3
    subst ekk
    obtain ⟨y, exy⟩ : ∃ y, y = xs[n] := ⟨_, rfl⟩
    rw [← exy] at ey ⊢
    have lps := Paired.length pr
    rw [List.length_take] at lps
    have stp := step y od H2 (fun y H4 => ∃ acc, H4 D = some (.lst acc) ∧ acc.length < sizeLine ∧ (L2.Same (upd H d (.frz od (.dK kvs))) (upd H4 D (.lst (acc ++ [y]))) ∧ ∃ ps : List Addr, (upd H4 D (.lst (acc ++ [y]))) D = some (.lst (ps.map V.ref)) ∧ Paired (fun t x => (upd H4 D (.lst (acc ++ [y]))) t = some (.tup [.str (key x), val x])) ps (xs.take (n + 1)))) (List.mem_of_getElem? ey) s2 fun t H3 s3 ht => ?_
    · refine cast ?_ stp
      congr 1
    · have hD3 := s3 _ _ hD2
      have ntD : t ≠ D := ne_of ht hD3 (by intro z; cases z)
      refine ⟨_, hD3, by rw [List.length_map]; exact small1000 (by omega), fun c o e => ?_, ps ++ [t], ?_, ?_⟩
      · rw [upd_ne (ne_of_none e hD)]
        exact s3 _ _ (s2 _ _ e)
      · rw [upd_same, List.map_append]
        rfl
      · rw [take_next' ey]
        refine paired_append (Paired.mapP pr fun a b e => ?_) (.cons ?_ .nil)
        · rw [upd_ne (ne_of e hD2 (by intro z; cases z))]
          exact s3 _ _ e
        · rw [upd_ne ntD]
          exact ht
  · rintro H2 ⟨s2, ps, hD2, pr⟩
    rw [lk, List.take_length] at pr
    have hdl : H2 d = some (.frz od (.dK kvs)) := s2 _ _ upd_same
    refine ⟨hdl, D, ps, xs.map (fun x => (Sum.inr (key x), val x)), rfl, SqL.of ((upd_ne nDd).trans hD2), ?_, fun q hq => ?_⟩
    · refine tups_prT (Paired.mapP pr fun a b e => ?_)
      rw [upd_ne (ne_of e hdl (fun z => nomatch z))]
      exact e
    · have same : L2.Same H (upd H2 d (.dK kvs)) := fun b o e => by
        by_cases hb : b = d
        · rw [hb] at e ⊢
          rw [hd] at e
          rw [upd_same]; exact e
        · rw [upd_ne hb]
          exact s2 _ _ ((upd_ne hb).trans e)
      have hq0 := same.free hq
      refine k q _ (fun b o e => ?_) hq0 upd_same
      rw [upd_ne (ne_of_none e hq0)]
      exact same _ _ e
end
/-- a value read, what it is said of it alone -/
def tCutE (te : TE) : TE := fun σ H Q => ∃ Mid : V → Hp → Prop, te σ H Mid ∧ ∀ v H', Mid v H' → Q v H'
theorem pe_cutE {X : Cx} {e : Expr} {t : TE} (he : PE X e t) : PE X e (tCutE t) := ⟨fun pins s σ H Q I h => by
  obtain ⟨Mid, h1, h2⟩ := h
  exact wpAny_mono (he.run pins s σ H _ I h1) (fun v s' ⟨x, H', I', r, q⟩ => ⟨x, H', I', r, h2 _ _ q⟩) fun _ _ e => e⟩
theorem KdIn.mono {C : Addr} {H H' : Hp} {z dx d l : Addr} {ws : List Str} {f : Str → Str → Str} (s : L2.Same H H') (h : KdIn C H z dx d l ws f) : KdIn C H' z dx d l ws f := ⟨s _ _ h.ob, s _ _ h.dc, s _ _ h.ls, h.kw⟩
/-- others than the Setting of these -/
def OthS (K : PySem.W.Frag) (S C : Addr) (ws : List Str) (f : Str → Str → Str) (dl : List (Str × Str)) (tw : List Str) (H : Hp) (x : V) : Prop :=
  (∃ (B : SA) (ws2 : List Str) (f2 : Str → Str → Str) (d2 : List (Str × Str)) (tw2 : List Str), x = .ref B.q ∧ StIn S C H B ws2 f2 d2 tw2 ∧ sameS ws f dl tw ws2 f2 d2 tw2 = false) ∨ ∃ t ∈ [Value.type "NoneType", .type "int", .type "dict", .type "list", .type "tuple", .ref C], TyX K H x t
section
variable {K : PySem.W.Frag} {S C : Addr} {ws : List Str} {f : Str → Str → Str} {dl : List (Str × Str)} {tw : List Str}
theorem OthS.mono {H H' : Hp} {x : V} (s : L2.Same H H') (h : OthS K S C ws f dl tw H x) : OthS K S C ws f dl tw H' x := by
  rcases h with ⟨B, ws2, f2, d2, tw2, e, st, n⟩ | ⟨t, m, ty⟩
  · exact .inl ⟨B, ws2, f2, d2, tw2, e, st.mono s, n⟩
  · exact .inr ⟨t, m, tyX_mono s ty⟩
end
end KT
set_option Elab.async false
set_option linter.all false
set_option maxRecDepth 100000
set_option maxHeartbeats 4000000
set_option Elab.async false
set_option linter.all false
set_option maxRecDepth 100000
set_option maxHeartbeats 4000000
set_option pp.maxSteps 900
set_option Elab.async false
set_option linter.all false
set_option maxRecDepth 100000
set_option maxHeartbeats 4000000
set_option pp.maxSteps 900
set_option Elab.async false
set_option linter.all false
set_option maxRecDepth 100000
set_option maxHeartbeats 4000000
set_option pp.maxSteps 900
namespace KT
open PySem L2 PyProof.Rows DTp TxS DKq
def abcS : Str := "abcdefghijklmnopqrstuvwxyz"
def cw1 : List Str := (List.range 26).map fun j => (⟨#[97 + j]⟩ : Str)
def nextL (L : List Str) : List Str := L.flatMap fun x => cw1.map fun y => x ++ y
theorem abc_get (i : Nat) : ∀ c, abcS.cps[i]? = some c → cw1[i]? = some ⟨#[c]⟩ := by
  have h : ∀ i, i < 26 → abcS.cps[i]? = some (97 + i) := by decide +kernel
  intro c hc
  have hi : i < 26 := by
    have := (Array.getElem?_eq_some_iff.mp hc).1
    exact this
  rw [h i hi] at hc
  unfold cw1
  rw [List.getElem?_map, List.getElem?_range hi, ← Option.some.inj hc]
  rfl
theorem cw1_len : cw1.length = 26 := by decide +kernel
theorem abc_size : abcS.cps.size = 26 := by decide +kernel
theorem nextL_len (L : List Str) : (nextL L).length = 26 * L.length := by
  unfold nextL
  induction L with
  | nil => rfl
  | cons a L ih => rw [List.flatMap_cons, List.length_append, ih, List.length_map, cw1_len, List.length_cons]; omega
theorem nextL_take {L : List Str} {i : Nat} {x : Str} (e : L[i]? = some x) : nextL (L.take (i + 1)) = nextL (L.take i) ++ cw1.map fun y => x ++ y := by
  rw [take_next' e]
  unfold nextL
  rw [List.flatMap_append, List.flatMap_cons, List.flatMap_nil, List.append_nil]
def rAddX : R2 := fun x y H Q => ∃ i j, x = .str i ∧ y = .str j ∧ i.length + j.length ≤ sizeLine ∧ Q (.str (i ++ j)) H
section
variable {K : PySem.W.Frag}
theorem lc2_words {σ : L2.St} {H : Hp} {Q : VK} {ll : Addr} {L : List Str} {m lw : V} (es : σ = [some m, some lw, some (.ref ll), none, none]) (hL : H ll = some (.lst (L.map V.str))) (few : L.length ≤ 30) (sm : ∀ x ∈ L, x.length ≤ 8)
    (k : ∀ q H', L2.Same H H' → H q = none → H' q = some (.lst ((nextL L).map V.str)) → Q (.ref q) H') :
    tLc2 (iList K (tVar 2)) (gName 3) tYes (iStr (tC (.str abcS))) (gName 4) tYes (tOp rAddX (tVar 3) (tVar 4)) [3, 4] [4] σ H Q := by
  subst es
  refine ⟨_, rfl, ll, rfl, ⟨_, SqL.of hL⟩, fun D hD => ?_⟩
  refine ⟨fun i n H' => n = L.length - i ∧ i ≤ L.length ∧ L2.Same H H' ∧ H' D = some (.lst ((nextL (L.take i)).map V.str)), ⟨_, rfl, Nat.zero_le _, Same.new hD, upd_same⟩, ?_⟩
  rintro i n H1 ⟨rfl, hi, s1, hD1⟩
  have w := walk_list (K := K) (a := ll) (xs := L.map V.str)
  by_cases hlt : i < L.length
  · refine .inr ⟨w.goes i H1 (by rw [List.length_map]; exact hlt) (SqL.of (s1 _ _ hL)), fun H' => L2.Same H H' ∧ H' D = some (.lst ((nextL (L.take (i + 1))).map V.str)), fun H' h => ⟨_, by omega, rfl, by omega, h.1, h.2⟩, fun v H2' y => ?_⟩
    obtain ⟨rfl, hx⟩ := w.yields i H1 v H2' (by rw [List.length_map]; exact hlt) (SqL.of (s1 _ _ hL)) y
    obtain ⟨x, ex, rfl⟩ := str_get hx
    have mx := List.mem_of_getElem? ex
    refine at_name (σ' := [some m, some lw, some (.ref ll), some (.str x), none]) rfl ⟨rfl, yes_if ?_⟩
    refine ⟨abcS, rfl, fun j n H' => n = 26 - j ∧ j ≤ 26 ∧ L2.Same H H' ∧ H' D = some (.lst ((nextL (L.take i) ++ (cw1.take j).map fun y => x ++ y).map V.str)), ⟨_, rfl, Nat.zero_le _, s1, by rw [List.take_zero, List.map_nil, List.append_nil]; exact hD1⟩, ?_⟩
    rintro j n H3 ⟨rfl, hj, s3, hD3⟩
    have w1 := walk_str (z := abcS)
    by_cases jlt : j < 26
    · refine .inr ⟨w1.goes j H3 (by rw [abc_size]; exact jlt) trivial, fun H' => L2.Same H H' ∧ H' D = some (.lst ((nextL (L.take i) ++ (cw1.take (j + 1)).map fun y => x ++ y).map V.str)), fun H' h => ⟨_, by omega, rfl, by omega, h.1, h.2⟩, fun v H4' y => ?_⟩
      obtain ⟨rfl, c, hc, rfl⟩ := w1.yields j H3 v H4' (by rw [abc_size]; exact jlt) trivial y
      have ec := abc_get j c hc
      refine at_name (σ' := [some m, some lw, some (.ref ll), some (.str x), some (.str ⟨#[c]⟩)]) rfl ⟨rfl, yes_if ?_⟩
      have l1 := nextL_len (L.take i)
      refine ⟨_, rfl, _, rfl, x, ⟨#[c]⟩, rfl, rfl, ?_, _, hD3, ?_, ?_, ?_⟩
      · have h1 := sm x mx
        have h2 : (⟨#[c]⟩ : Str).length = 1 := rfl
        rw [h2, sizeLine_eq]; omega
      · rw [List.length_map, List.length_append, l1, List.length_map, List.length_take, List.length_take, sizeLine_eq]
        omega
      · exact fun b o e => by rw [upd_ne (ne_of_none e hD)]; exact s3 _ _ e
      · rw [upd_same, take_next' ec, List.map_append (l₁ := cw1.take j), ← List.append_assoc, List.map_append (l₁ := nextL (L.take i) ++ _)]
        rfl
    · have ej : j = 26 := by omega
      subst ej
      refine .inl ⟨?_, s3, ?_⟩
      · have := w1.stops H3 trivial
        rwa [abc_size] at this
      · have e26 : cw1.take 26 = cw1 := List.take_of_length_le (Nat.le_of_eq cw1_len)
        rw [nextL_take ex, hD3, e26]
  · have ei : i = L.length := by omega
    subst ei
    refine .inl ⟨?_, ?_⟩
    · have := w.stops H1 (SqL.of (s1 _ _ hL))
      rwa [List.length_map] at this
    · rw [List.take_length] at hD1
      exact k D H1 s1 hD hD1
end
/-- the words after j rounds, the longest -/
def wds : Nat → List Str
  | 0 => []
  | 1 => cw1
  | _ => cw1 ++ nextL cw1
def lng : Nat → List Str
  | 0 => [⟨#[]⟩]
  | 1 => cw1
  | _ => nextL cw1
theorem lng_next : nextL (lng 0) = lng 1 := by decide +kernel
theorem cw1_small : ∀ x ∈ cw1, x.length ≤ 8 := by decide +kernel
def cws (n : Nat) : List Str := (cw1 ++ nextL cw1).take n
section
variable {P : Program} {w : World} {K : PySem.W.Frag} {mg : Str → Option Value} {base : Heap} {C S : Addr}
def spCntWords : Sp := fun vs H Q _ => ∃ n : Nat, vs = [.int (n : Nat)] ∧ n ≤ 100 ∧ ∀ q H', L2.Same H H' → H q = none → H' q = some (.lst ((cws n).map V.str)) → Q (.ref q) H'
abbrev nCntWords : List Str := ["many", "words", "longest", "word", "letter"]
theorem scCntWords : FnScope nCntWords ["many"] (defScope pCntWords) := ⟨rfl, rfl, rfl, by decide +kernel, rfl, by decide +kernel, by decide +kernel⟩
def measW (σ : L2.St) (H : Hp) : Nat := match σ[1]? with
  | some (some (V.ref a)) => match H a with
    | some (.lst xs) => 1000 - xs.length
    | _ => 0
  | _ => 0
theorem measW_eq {σ : L2.St} {H : Hp} {a : Addr} {xs : List V} (h1 : σ[1]? = some (some (.ref a))) (h2 : H a = some (.lst xs)) : measW σ H = 1000 - xs.length := by
  unfold measW
  rw [h1]
  dsimp only
  rw [h2]
theorem wds_len : (wds 0).length = 0 ∧ (wds 1).length = 26 ∧ (wds 2).length = 702 := by
  refine ⟨rfl, cw1_len, ?_⟩
  show (cw1 ++ nextL cw1).length = 702
  rw [List.length_append, nextL_len, cw1_len]
theorem ok_cntWords {g : Addr} {fd : FuncData} (F : Fun K "counting_words" "counting_words" pCntWords g fd) (B0 : Blt mg) (Z : Blp mg) : FnOk P w K mg base CX0 1 g fd ["many"] spCntWords := by
  refine F.ok scCntWords (fun vs H Q E h => ?_) (fun cdv A outer s H vs Q E hr h => ?_)
  · obtain ⟨n, rfl, _⟩ := h
    rfl
  · obtain ⟨n, rfl, n1, k⟩ := h
    have nd := scCntWords.nd
    obtain ⟨tl, ml⟩ := Z.letters
    refine ⟨_, pss_cons (ps_set (i := 1) nd rfl (Or.inl rfl) (pe_lst pa_nil))
      (pss_cons (ps_set (i := 2) nd rfl (Or.inl rfl) (pe_lst (pa_cons pe_str pa_nil)))
      (pss_cons (ps_while PassesOwn.never (pt_cut <| pt_cmpR op_lt (pe_callB call_len_seq (by rfl) B0.len PySem.boot_len (pa_cons (pv 1) pa_nil)) (pv 0) (nomark _))
        (pss_cons (ps_setLc2 (i := 2) (own := [("word", 3), ("letter", 4)]) (vs1 := [4]) (g := gName 3) (tt := tYes) (wi1 := iStr (tC (.str abcS))) (g1 := gName 4) (tt1 := tYes) (te := tOp rAddX (tVar 3) (tVar 4)) rfl nd rfl rfl (sw_true rfl rfl rfl (by decide +kernel)) (pi_list (pv 2)) (blkOk_by (own := [("word", 3), ("letter", 4)]) (N := nCntWords) (sc := defScope pCntWords) (by decide +kernel)) (by decide)
            (fun _ _ _ _ _ => pg_name (i := 3) nd rfl (Or.inl rfl)) (fun _ _ _ _ _ => pts_nil) (fun _ _ _ _ _ => pi_str (pe_glob rfl ml ⟨_, rfl⟩)) (fun _ _ _ _ _ => pg_name (i := 4) nd rfl (Or.inl rfl)) (fun _ _ _ _ _ => pts_nil) (fun _ _ _ _ _ => pe_op op_add_str (pv 3) (pv 4)))
        (pss_one (ps_set (i := 1) nd rfl (Or.inl rfl) (pe_op op_cat (pv 1) (pv 2))))))
      (pss_one (ps_ret (pe_slice sl_list (pv 1) po_none (po_some (pv 0))))))), ?_⟩
    refine ⟨(by show 0 ≤ sizeLine; decide), fun lw hlw0 => ?_⟩
    have s1 := Same.new (H := H) (o := .lst []) hlw0
    have hlw : upd H lw (.lst []) lw = some (.lst ((wds 0).map V.str)) := upd_same
    generalize upd H lw (.lst []) = H1 at s1 hlw ⊢
    refine at_name (σ' := [some (.int (n : Nat)), some (.ref lw), none, none, none]) rfl ?_
    refine ⟨(by show 1 ≤ sizeLine; decide), fun ll hll0 => ?_⟩
    have s2 := Same.new (H := H1) (o := .lst [.str ⟨#[]⟩]) hll0
    have hll : upd H1 ll (.lst [.str ⟨#[]⟩]) ll = some (.lst ((lng 0).map V.str)) := upd_same
    refine at_name (σ' := [some (.int (n : Nat)), some (.ref lw), some (.ref ll), none, none]) rfl ?_
    have hlw2 := s2 _ _ hlw
    have s02 := s1.trans s2
    refine while_by (fun σ H' => ∃ (j : Nat) (lw ll : Addr), j ≤ 2 ∧ σ = [some (.int (n : Nat)), some (.ref lw), some (.ref ll), none, none] ∧ L2.Same H H' ∧ H' lw = some (.lst ((wds j).map V.str)) ∧ H' ll = some (.lst ((lng j).map V.str))) measW ?_ ?_ (fun σ H Q Q' i ⟨Pn, h, kk⟩ => ⟨Pn, h, fun b H' q => i _ _ (kk _ _ q)⟩)
    · exact ⟨0, lw, ll, by omega, rfl, s02, hlw2, hll⟩
    · rintro σ H3 ⟨j, lw, ll, j2, rfl, s3, hw3, hl3⟩
      refine ⟨fun b H' => H' = H3 ∧ b = decide ((wds j).length < n), ?_, ?_⟩
      · refine ⟨_, rfl, lw, _, rfl, .inl (SqL.of hw3), _, rfl, _, _, rfl, rfl, _, rfl, rfl, ?_⟩
        rw [List.length_map]
        by_cases z : (wds j).length < n
        · rw [decide_eq_true z, decide_eq_true (by omega)]
        · rw [decide_eq_false z, decide_eq_false (by omega)]
      rintro b H3 ⟨rfl, rfl⟩
      obtain ⟨w0, w1, w2⟩ := wds_len
      refine ite2 (fun z => ?_) (fun z => ?_)
      · have z := of_decide_eq_true z
        have j1 : j = 0 ∨ j = 1 := by
          rcases Nat.lt_or_ge j 2 with h | h
          · omega
          · have : j = 2 := by omega
            subst this
            omega
        have nx : nextL (lng j) = lng (j + 1) := by
          rcases j1 with rfl | rfl
          · exact lng_next
          · rfl
        have wx : wds j ++ lng (j + 1) = wds (j + 1) := by
          rcases j1 with rfl | rfl
          · rfl
          · rfl
        have lf : (lng j).length ≤ 26 := by
          rcases j1 with rfl | rfl
          · show 1 ≤ 26; decide
          · show cw1.length ≤ 26; rw [cw1_len]; decide
        have sm : ∀ x ∈ lng j, x.length ≤ 8 := by
          rcases j1 with rfl | rfl
          · intro x hx
            rw [List.mem_singleton.mp hx]; decide
          · exact cw1_small
        have lw3 : (wds j).length ≤ 26 := by
          rcases j1 with rfl | rfl
          · omega
          · omega
        have lw4 : (wds j).length < (wds (j + 1)).length ∧ (wds (j + 1)).length ≤ 702 := by
          rcases j1 with rfl | rfl
          · show (wds 0).length < (wds 1).length ∧ (wds 1).length ≤ 702
            exact ⟨by omega, by omega⟩
          · show (wds 1).length < (wds 2).length ∧ (wds 2).length ≤ 702
            exact ⟨by omega, by omega⟩
        have lng1 : (lng (j + 1)).length ≤ 676 := by
          rw [← nx, nextL_len]; omega
        dsimp only [tSeq, tAsg]
        refine lc2_words rfl hl3 (by omega) sm fun q H4 s4 hq0 hq => ?_
        rw [nx] at hq
        refine at_name (σ' := [some (.int (n : Nat)), some (.ref lw), some (.ref q), none, none]) rfl ?_
        have hw4 := s4 _ _ hw3
        refine ⟨_, rfl, _, rfl, lw, q, _, _, rfl, rfl, hw4, hq, by rw [List.length_map, List.length_map, sizeLine_eq]; omega, fun nw hnw0 => ?_⟩
        rw [← List.map_append, wx]
        have s5 := Same.new (H := H4) (o := .lst ((wds (j + 1)).map V.str)) hnw0
        have hnw : upd H4 nw (.lst ((wds (j + 1)).map V.str)) nw = _ := upd_same
        generalize upd H4 nw (.lst ((wds (j + 1)).map V.str)) = H5 at s5 hnw ⊢
        refine at_name (σ' := [some (.int (n : Nat)), some (.ref nw), some (.ref q), none, none]) rfl ⟨⟨j + 1, nw, q, by omega, rfl, s3.trans (s4.trans s5), hnw, s5 _ _ hq⟩, ?_⟩
        rw [measW_eq rfl hnw, measW_eq rfl hw3, List.length_map, List.length_map]
        omega
      · have z : ¬ (wds j).length < n := fun h => z (decide_eq_true h)
        have ew : (wds j).take n = cws n := by
          unfold cws
          have e2 : wds 2 = cw1 ++ nextL cw1 := rfl
          rcases Nat.lt_or_ge j 1 with h | h
          · have : j = 0 := by omega
            subst this
            have : n = 0 := by omega
            subst this
            rfl
          · rcases Nat.lt_or_ge j 2 with h2 | h2
            · have : j = 1 := by omega
              subst this
              rw [List.take_append_of_le_length (by rw [cw1_len]; omega)]
              rfl
            · have : j = 2 := by omega
              subst this
              rfl
        refine ⟨_, rfl, _, rfl, _, rfl, lw, _, rfl, SqL.of hw3, fun q hq0 => ?_⟩
        rw [cut_to _ _ (by rw [List.length_map]; omega), ← List.map_take, ew]
        exact k q _ (s3.trans (Same.new hq0)) (s3.free hq0) upd_same
end
end KT
set_option Elab.async false
set_option linter.all false
set_option maxRecDepth 100000
set_option maxHeartbeats 4000000
set_option pp.maxSteps 900
namespace KT
open PySem L2 PyProof.Rows DTp TxS DKq
section
variable {P : Program} {w : World} {K : PySem.W.Frag} {mg : Str → Option Value} {base : Heap} {C S : Addr}
/-- a dict with these keys, all words -/
structure LeadOk (kvs : List (Key × V)) (ks : List Str) : Prop where
  keys : kvs.map (·.1) = ks.map Sum.inr
  ne : ks ≠ []
  few : ks.length ≤ 100
  wd : ∀ x ∈ ks, Wd x
def spLeads : Sp := fun vs H Q _ => ∃ (d : Addr) (kvs : List (Key × V)) (ks : List Str), vs = [.ref d] ∧ H d = some (.dK kvs) ∧ LeadOk kvs ks ∧ ∀ H', L2.Same H H' → Q (.bl true) H'
abbrev nLeads : List Str := ["value", "word"]
theorem scLeads : FnScope nLeads ["value"] (defScope pLeads) := ⟨rfl, rfl, rfl, by decide +kernel, rfl, by decide +kernel, by decide +kernel⟩
theorem ok_leads {g : Addr} {fd : FuncData} (F : Fun K "_leads_from_words" "_leads_from_words" pLeads g fd) (B0 : Blt mg) (Z : Blp mg) (M : Cee P w K mg base 1 "is_word" ["value"] spIsWord) : FnOk P w K mg base CX0 2 g fd ["value"] spLeads := by
  refine F.ok scLeads (fun vs H Q E h => ?_) (fun cdv A outer s H vs Q E hr h => ?_)
  · obtain ⟨d, kvs, ks, rfl, _⟩ := h
    rfl
  · obtain ⟨d, kvs, ks, rfl, hd, ok, k⟩ := h
    have nd := scLeads.nd
    refine ⟨_, pss_one (ps_ret (pe_and (pe_callB call_isi (by rfl) Z.isi boot_isi (pa_cons (pv 0) (pa_cons (pe_bltn (v := .ty "dict") (by rfl) Z.dict (by decide +kernel) rfl) pa_nil)))
      (pe_and (pe_cmpR op_gt (pe_callB call_lenD (by rfl) B0.len PySem.boot_len (pa_cons (pv 0) pa_nil)) pe_int (nomark _))
        (pe_one (pe_callB (cr_all rfl) (by rfl) Z.all (by decide +kernel) (pa_cons (pe_lock
            (pe_lc (own := [("word", 1)]) (g := gName 1) (tt := tYes) (te := tCall spIsWord [] E0 (tCons (tVar 1) tNil)) rfl nd (pi_keys (pv 0)) (blkOk_by (own := [("word", 1)]) (N := nLeads) (sc := defScope pLeads) (by decide +kernel))
              (fun _ _ _ _ _ => pg_name (i := 1) nd rfl (Or.inl rfl)) (fun _ _ _ _ _ => pts_nil) (fun _ _ _ _ _ => pe_c M hr rfl (pa_cons (pv 1) pa_nil)))) pa_nil)))))), ?_⟩
    have lk : kvs.length = ks.length := by have := congrArg List.length ok.keys; rw [List.length_map, List.length_map] at this; exact this
    have lp : 0 < ks.length := List.length_pos_iff.mpr ok.ne
    have few := ok.few
    refine ⟨_, rfl, _, _, _, _, true, rfl, .ty _, .base (.dK hd), kit_ty (by decide +kernel), _, rfl, iteT ?_⟩
    refine ⟨_, rfl, d, kvs, rfl, hd, _, _, rfl, rfl, _, rfl, ?_⟩
    refine ite2 (fun _ => ?_) (fun z => absurd (decide_eq_true (show (0 : Int) < (kvs.length : Nat) by omega)) z)
    refine lkK_true (fun od R hh => ⟨_, rfl, hh⟩) hd (by omega) ?_ ?_
    · rintro i kk v od H1 R hk s1 kR
      have hx : (kvs.map (·.1))[i]? = some kk := by rw [List.getElem?_map, hk]; rfl
      rw [ok.keys, List.getElem?_map] at hx
      cases ex : ks[i]? with
      | none => rw [ex] at hx; cases hx
      | some x =>
        rw [ex] at hx
        obtain rfl : Sum.inr x = kk := Option.some.inj hx
        exact at_name (σ' := [some (.ref d), some (.str x)]) rfl ⟨rfl, _, rfl, x, rfl, ok.wd x (List.mem_of_getElem? ex), kR⟩
    · intro D H1 s1 hD
      refine ⟨D, _, rfl, SqL.of hD, ?_⟩
      rw [all_true]
      exact k _ s1
end
end KT
set_option Elab.async false
set_option linter.all false
set_option maxRecDepth 100000
set_option maxHeartbeats 4000000
set_option pp.maxSteps 900
namespace KT
open PySem L2 PyProof.Rows DTp TxS DKq
def tLockN : Nat → TE → TE
  | 0, t => t
  | n + 1, t => tLockE (tLockN n t)
def tLocks (t : TE) : TE := fun σ H Q => ∃ n, tLockN n t σ H Q
theorem pe_lockN {X : Cx} {e : Expr} {t : TE} (h : PE X e t) : ∀ n, PE X e (tLockN n t)
  | 0 => h
  | n + 1 => pe_lock (pe_lockN h n)
theorem pe_locks {X : Cx} {e : Expr} {t : TE} (h : PE X e t) : PE X e (tLocks t) := ⟨fun pins s σ H Q I ⟨n, hw⟩ => (pe_lockN h n).run pins s σ H Q I hw⟩
/-- these are locked, the rest is as it was -/
def Fz (ds : List (Addr × HO)) (H H' : Hp) : Prop := (∀ p ∈ ds, ∃ od, H' p.1 = some (.frz od p.2)) ∧ ∀ b, b ∉ ds.map (·.1) → H' b = H b
def unfz : List (Addr × HO) → Hp → Hp
  | [], H => H
  | p :: ds, H => upd (unfz ds H) p.1 p.2
theorem unfz_no : ∀ {ds : List (Addr × HO)} {H : Hp} {b : Addr}, b ∉ ds.map (·.1) → unfz ds H b = H b
  | [], _, _, _ => rfl
  | p :: ds, H, b, h => by
    rw [List.map_cons, List.mem_cons, not_or] at h
    show upd (unfz ds H) p.1 p.2 b = _
    rw [upd_ne h.1, unfz_no h.2]
theorem unfz_at : ∀ {ds : List (Addr × HO)} {H : Hp}, (ds.map (·.1)).Nodup → ∀ p ∈ ds, unfz ds H p.1 = some p.2
  | [], _, _, p, hp => by cases hp
  | q :: ds, H, nd, p, hp => by
    rw [List.map_cons, List.nodup_cons] at nd
    rcases List.mem_cons.mp hp with rfl | h
    · exact upd_same
    · have : p.1 ≠ q.1 := fun e => nd.1 (e ▸ List.mem_map.mpr ⟨p, h, rfl⟩)
      show upd (unfz ds H) q.1 q.2 p.1 = _
      rw [upd_ne this, unfz_at nd.2 p h]
theorem locks_read {t : TE} {σ : L2.St} : ∀ (ds : List (Addr × HO)) (H : Hp) (Q : VK), (ds.map (·.1)).Nodup → (∀ p ∈ ds, H p.1 = some p.2 ∧ Mut (some p.2)) →
    (∀ H' (R : VK), Fz ds H H' → (∀ v H1, (∀ p ∈ ds, H1 p.1 = H' p.1) → Q v (unfz ds H1) → R v H1) → t σ H' R) → tLockN ds.length t σ H Q
  | [], H, Q, _, _, h => h H Q ⟨(fun p hp => by cases hp), fun _ _ => rfl⟩ fun v H1 _ q => q
  | p :: ds, H, Q, nd, hh, h => by
    rw [List.map_cons, List.nodup_cons] at nd
    have hp := hh p List.mem_cons_self
    refine ⟨p.1, p.2, hp.1, hp.2, fun od => ?_⟩
    refine locks_read ds (upd H p.1 (.frz od p.2)) _ nd.2 (fun q hq => ?_) fun H' R fz k => ?_
    · have : q.1 ≠ p.1 := fun e => nd.1 (e ▸ List.mem_map.mpr ⟨q, hq, rfl⟩)
      rw [upd_ne this]
      exact hh q (List.mem_cons_of_mem _ hq)
    · have hpe : H' p.1 = some (.frz od p.2) := by rw [fz.2 p.1 nd.1, upd_same]
      refine h H' R ⟨fun q hq => ?_, fun b hb => ?_⟩ fun v H1 same q => k v H1 (fun z hz => same z (List.mem_cons_of_mem _ hz)) ⟨?_, q⟩
      · rcases List.mem_cons.mp hq with rfl | hq
        · exact ⟨od, hpe⟩
        · exact fz.1 q hq
      · rw [List.map_cons, List.mem_cons, not_or] at hb
        rw [fz.2 b hb.2, upd_ne hb.1]
      · rw [unfz_no nd.1, same p List.mem_cons_self]
        exact hpe
/-- what was there is there behind the locks -/
theorem unfz_same {ds : List (Addr × HO)} {H H' H1 : Hp} (nd : (ds.map (·.1)).Nodup) (hh : ∀ p ∈ ds, H p.1 = some p.2) (fz : Fz ds H H') (s : L2.Same H' H1) : L2.Same H (unfz ds H1) := fun b o e => by
  by_cases hb : b ∈ ds.map (·.1)
  · obtain ⟨p, hp, rfl⟩ := List.mem_map.mp hb
    rw [unfz_at nd p hp, ← hh p hp]
    exact e
  · rw [unfz_no hb]
    exact s _ _ ((fz.2 b hb).trans e)
end KT
set_option Elab.async false
set_option linter.all false
set_option maxRecDepth 100000
set_option maxHeartbeats 4000000
set_option pp.maxSteps 900
namespace KT
open PySem L2 PyProof.Rows DTp TxS DKq
structure MvOk (sts : List Str) (row : Str → List (Str × Str)) (ds : List Str) : Prop where
  ne : sts ≠ []
  few : sts.length ≤ 100
  wd : ∀ s ∈ sts, Wd s
  nd : sts.Nodup
  ks : ∀ s ∈ sts, (keysD (row s)).Perm ds
  dne : ds ≠ []
  dfew : ds.length ≤ 60
  dwd : ∀ s ∈ ds, Wd s
  asc : Asc ds
  vs : ∀ s ∈ sts, ∀ p ∈ row s, p.2 ∈ sts
structure MvAt (H : Hp) (a : Addr) (sts : List Str) (as : List Addr) (row : Str → List (Str × Str)) : Prop where
  at' : H a = some (.dK ((sts.zip as).map fun p => ((Sum.inr p.1 : Key), V.ref p.2)))
  len : as.length = sts.length
  nda : (a :: as).Nodup
  inn : ∀ (i : Nat) (s : Str) (b : Addr), sts[i]? = some s → as[i]? = some b → H b = some (.dK (dkv (row s)))
theorem MvAt.mono {H H' : Hp} {a : Addr} {sts : List Str} {as : List Addr} {row : Str → List (Str × Str)} (s : L2.Same H H') (h : MvAt H a sts as row) : MvAt H' a sts as row := ⟨s _ _ h.at', h.len, h.nda, fun i x b h1 h2 => s _ _ (h.inn i x b h1 h2)⟩
theorem MvAt.keys {H : Hp} {a : Addr} {sts : List Str} {as : List Addr} {row : Str → List (Str × Str)} (h : MvAt H a sts as row) : ((sts.zip as).map fun p => ((Sum.inr p.1 : Key), V.ref p.2)).map (·.1) = sts.map Sum.inr := by
  rw [List.map_map]
  have e : (sts.zip as).map Prod.fst = sts := List.map_fst_zip (Nat.le_of_eq h.len.symm)
  conv => rhs; rw [← e, List.map_map]
  rfl
def rSortD : List V → Hp → VK → Prop := fun xs H Q => ∃ (a : Addr) (kvs : List (Key × V)) (ks : List Str), xs = [.ref a] ∧ Rd H a (.dK kvs) ∧ kvs.map (·.1) = ks.map Sum.inr ∧ ks.length < 64 ∧
    ∀ ys p, ys.Perm ks → sortedS ys = true → H p = none → Q (.ref p) (upd H p (.lst (ys.map V.str)))
theorem cr_sortD {X : Cx} (hc : X.calm = true) : CallR X (.builtin "sorted") rSortD := call_sortedD hc
section
variable {P : Program} {w : World} {K : PySem.W.Frag} {mg : Str → Option Value} {base : Heap} {C S : Addr}
def spAreMoves : Sp := fun vs H Q _ => ∃ (a : Addr) (sts : List Str) (as : List Addr) (row : Str → List (Str × Str)) (ds : List Str), vs = [.ref a] ∧ MvAt H a sts as row ∧ MvOk sts row ds ∧ ∀ H', L2.Same H H' → Q (.bl true) H'
abbrev nAM : List Str := ["moves", "deeds", "led", "row", "state"]
theorem scAM : FnScope nAM ["moves"] (defScope pAreMoves) := ⟨rfl, rfl, rfl, by decide +kernel, rfl, by decide +kernel, by decide +kernel⟩
theorem ok_areMoves {g : Addr} {fd : FuncData} (F : Fun K "_are_moves" "_are_moves" pAreMoves g fd) (B0 : Blt mg) (Z : Blp mg) (M : Cee P w K mg base 2 "_leads_from_words" ["value"] spLeads) : FnOk P w K mg base CX0 3 g fd ["moves"] spAreMoves := by
  refine F.ok scAM (fun vs H Q E h => ?_) (fun cdv A outer s H vs Q E hr h => ?_)
  · obtain ⟨a, sts, as, row, ds, rfl, _⟩ := h
    rfl
  · obtain ⟨a, sts, as, row, ds, rfl, mv, ok, k⟩ := h
    have nd := scAM.nd
    refine ⟨_, pss_cons (ps_if (pt_cut <| PW.pt (pw_or (pt_not (pt_val (pe_c M hr rfl (pa_cons (pv 0) pa_nil)))) (pw_or1 (pt_not (pt_val (pe_callB (cr_all rfl) (by rfl) Z.all (by decide +kernel) (pa_cons (pe_lock
            (pe_lc (own := [("led", 2)]) (g := gName 2) (tt := tYes) (te := tCall spLeads [] E0 (tCons (tVar 2) tNil)) rfl nd (pi_values (pv 0)) (blkOk_by (own := [("led", 2)]) (N := nAM) (sc := defScope pAreMoves) (by decide +kernel))
              (fun _ _ _ _ _ => pg_name (i := 2) nd rfl (Or.inl rfl)) (fun _ _ _ _ _ => pts_nil) (fun _ _ _ _ _ => pe_c M hr rfl (pa_cons (pv 2) pa_nil)))) pa_nil))))))) (pss_one (ps_ret pe_bl)) pss_nil)
      (pss_cons (ps_cut (ps_set (i := 1) nd rfl (Or.inr rfl) (pe_lock
            (pe_lc (own := [("led", 2)]) (g := gName 2) (tt := tYes) (te := tCB rSortD (tCons (tVar 2) tNil)) rfl nd (pi_values (pv 0)) (blkOk_by (own := [("led", 2)]) (N := nAM) (sc := defScope pAreMoves) (by decide +kernel))
              (fun _ _ _ _ _ => pg_name (i := 2) nd rfl (Or.inl rfl)) (fun _ _ _ _ _ => pts_nil) (fun _ _ _ _ _ => pe_callB (cr_sortD rfl) (by rfl) Z.sorted (by decide +kernel) (pa_cons (pv 2) pa_nil))))))
      (pss_cons (ps_if (pt_not (pt_val (pe_callB (cr_all rfl) (by rfl) Z.all (by decide +kernel) (pa_cons
            (pe_lc (own := [("row", 3)]) (g := gName 3) (tt := tYes) (te := tOp (rEqD K) (tVar 3) (tOp (rIxL K) (tVar 1) (tC (.int 0)))) rfl nd (pi_list (pv 1)) (blkOk_by (own := [("row", 3)]) (N := nAM) (sc := defScope pAreMoves) (by decide +kernel))
              (fun _ _ _ _ _ => pg_name (i := 3) nd rfl (Or.inl rfl)) (fun _ _ _ _ _ => pts_nil) (fun _ _ _ _ _ => pe_cmpR (op_eqD hr.units) (pv 3) (pe_ix ix_list (pv 1) pe_int (fun _ _ => rfl)) (nomark _))) pa_nil)))) (pss_one (ps_ret pe_bl)) pss_nil)
      (pss_one (ps_ret (pe_callB (cr_all rfl) (by rfl) Z.all (by decide +kernel) (pa_cons (pe_locks
            (pe_lc2 (own := [("led", 2), ("state", 4)]) (vs1 := [4]) (g := gName 2) (tt := tYes) (wi1 := iVals (tVar 2)) (g1 := gName 4) (tt1 := tYes) (te := tAndV (tCB (rIsi K) (tCons (tVar 4) (tCons (tC (.ty "str")) tNil))) (tDIn (tVar 4) (tVar 0))) rfl nd (pi_values (pv 0)) (blkOk_by (own := [("led", 2), ("state", 4)]) (N := nAM) (sc := defScope pAreMoves) (by decide +kernel)) (by decide)
              (fun _ _ _ _ _ => pg_name (i := 2) nd rfl (Or.inl rfl)) (fun _ _ _ _ _ => pts_nil) (fun _ _ _ _ _ => pi_values (pv 2)) (fun _ _ _ _ _ => pg_name (i := 4) nd rfl (Or.inl rfl)) (fun _ _ _ _ _ => pts_nil)
              (fun _ _ _ _ _ => pe_and (pe_callB call_isi (by rfl) Z.isi boot_isi (pa_cons (pv 4) (pa_cons (pe_bltn (v := .ty "str") (by rfl) Z.str (by decide +kernel) rfl) pa_nil))) (pe_one (pe_cmp (pc_din (hu_of hr) (pv 4) (pv 0)) (by rfl)))))) pa_nil)))))), ?_⟩
    obtain ⟨kvs, ekv⟩ : ∃ kvs, kvs = (sts.zip as).map fun p => ((Sum.inr p.1 : Key), V.ref p.2) := ⟨_, rfl⟩
    have lk : kvs.length = sts.length := by rw [ekv, List.length_map, List.length_zip, mv.len, Nat.min_self]
    have get : ∀ (i : Nat) (kk : Key) (v : V), kvs[i]? = some (kk, v) → ∃ s b, sts[i]? = some s ∧ as[i]? = some b ∧ kk = Sum.inr s ∧ v = .ref b := by
      intro i kk v h
      rw [ekv, List.getElem?_map] at h
      cases e : (sts.zip as)[i]? with
      | none => rw [e] at h; cases h
      | some p =>
        rw [e] at h
        have h := Option.some.inj h
        obtain ⟨h1, h2⟩ := List.getElem?_zip_eq_some.mp e
        exact ⟨p.1, p.2, h1, h2, (congrArg Prod.fst h).symm, (congrArg Prod.snd h).symm⟩
    have at' : H a = some (.dK kvs) := by rw [ekv]; exact mv.at'
    have keys : kvs.map (·.1) = sts.map Sum.inr := by rw [ekv]; exact mv.keys
    have few := ok.few
    have dfew := ok.dfew
    have nba : ∀ (i : Nat) (b : Addr), as[i]? = some b → b ≠ a := fun i b h e => by
      have := (List.nodup_cons.mp mv.nda).1
      exact this (e ▸ List.mem_of_getElem? h)
    have lead : ∀ (i : Nat) (s : Str), sts[i]? = some s → LeadOk (dkv (row s)) (keysD (row s)) := fun i s h => by
      have pm := ok.ks s (List.mem_of_getElem? h)
      exact ⟨dkv_keys _, fun e => by rw [e] at pm; exact ok.dne pm.symm.eq_nil, by rw [pm.length_eq]; omega, fun x hx => ok.dwd x (pm.mem_iff.mp hx)⟩
    -- all are dicts of words
    refine ⟨fun b H' => b = false ∧ L2.Same H H', ?_, ?_⟩
    · refine ⟨_, rfl, a, kvs, sts, rfl, at', ⟨keys, ok.ne, ok.few, ok.wd⟩, fun H1 s1 => ⟨_, rfl, iteF ?_⟩⟩
      refine lkV_true (fun od R hh => ⟨_, rfl, hh⟩) (s1 _ _ at') (by omega) ?_ ?_
      · rintro i kk v od H2 R hk s2 kR
        obtain ⟨s, b, es, eb, rfl, rfl⟩ := get i kk v hk
        have hb2 := s2 _ _ ((upd_ne (nba i b eb)).trans (s1 _ _ (mv.inn i s b es eb)))
        exact at_name (σ' := [some (.ref a), none, some (.ref b), none, none]) rfl ⟨rfl, _, rfl, b, _, _, rfl, hb2, lead i s es, kR⟩
      · intro D H2 s2 hD
        refine ⟨D, _, rfl, SqL.of hD, ?_⟩
        rw [all_true]
        exact ⟨_, rfl, rfl, s1.trans s2⟩
    rintro b H1 ⟨rfl, s1⟩
    refine iteF ?_
    have mv1 := mv.mono s1
    -- the deeds, sorted
    refine ⟨fun σ' H' => ∃ (dD : Addr) (ts : List Addr), σ' = [some (.ref a), some (.ref dD), none, none, none] ∧ L2.Same H1 H' ∧ H' dD = some (.lst (ts.map V.ref)) ∧ ts.length = sts.length ∧ ∀ t ∈ ts, H' t = some (.lst (ds.map V.str)), ?_, ?_⟩
    · refine ⟨a, .dK kvs, s1 _ _ at', trivial, fun od => ?_⟩
      refine ⟨_, rfl, a, od, kvs, rfl, upd_same, fun D hD => ?_⟩
      have nDa : D ≠ a := fun e => by rw [e, upd_same] at hD; cases hD
      refine lc_it walk_values (fun i H' => L2.Same (upd H1 a (.frz od (.dK kvs))) H' ∧ ∃ ts : List Addr, H' D = some (.lst (ts.map V.ref)) ∧ ts.length = i ∧ ∀ t ∈ ts, H' t = some (.lst (ds.map V.str))) ?_ ?_ ?_ ?_
      · exact ⟨Same.new hD, [], upd_same, rfl, fun t ht => by cases ht⟩
      · rintro i H' _ ⟨s2, _⟩
        exact s2 _ _ upd_same
      · rintro i v H2' H2 hi ⟨s2, ts, hD2, lt, all⟩ ⟨rfl, kk, hk⟩
        obtain ⟨s, b, es, eb, rfl, rfl⟩ := get i kk v hk
        have hb2 := s2 _ _ ((upd_ne (nba i b eb)).trans (mv1.inn i s b es eb))
        refine at_name (σ' := [some (.ref a), none, some (.ref b), none, none]) rfl ⟨rfl, yes_if ?_⟩
        have pk := ok.ks s (List.mem_of_getElem? es)
        refine ⟨_, rfl, b, _, keysD (row s), rfl, .inl hb2, dkv_keys _, by rw [pk.length_eq]; omega, fun ys q pm so hq0 => ?_⟩
        have ey : ys = ds := (sortedS_asc so (pm.nodup_iff.mpr (pk.nodup_iff.mpr ok.asc.nodup))).eq ok.asc (pm.trans pk)
        subst ey
        have s3 := Same.new (H := H2) (o := .lst (ys.map V.str)) hq0
        have hq : upd H2 q (.lst (ys.map V.str)) q = _ := upd_same
        generalize upd H2 q (.lst (ys.map V.str)) = H3 at s3 hq ⊢
        have hD3 := s3 _ _ hD2
        have nqD : q ≠ D := fun e => by rw [e, hD2] at hq0; cases hq0
        refine ⟨_, hD3, by rw [List.length_map]; exact small1000 (by omega), fun b o e => ?_, ts ++ [q], by rw [upd_same, List.map_append]; rfl, by rw [List.length_append, lt]; rfl, fun t ht => ?_⟩
        · rw [upd_ne (ne_of_none e hD)]
          exact s3 _ _ (s2 _ _ e)
        · rcases List.mem_append.mp ht with h | h
          · have ntD : t ≠ D := fun e => by
              have h1 := all t h
              rw [e, hD2] at h1
              have h1 := HO.lst.inj (Option.some.inj h1)
              have h2 := ok.dne
              match ys, ts, h1, h2 with
              | y :: ys, [], h1, _ => cases h1
              | y :: ys, t :: ts, h1, _ => injection h1 with h1 _; cases h1
              | [], _, _, h2 => exact h2 rfl
            rw [upd_ne ntD]
            exact s3 _ _ (all t h)
          · rw [List.mem_singleton.mp h, upd_ne nqD]
            exact hq
      · rintro H2 ⟨s2, ts, hD2, lt, all⟩
        have hdl : H2 a = some (.frz od (.dK kvs)) := s2 _ _ upd_same
        refine ⟨hdl, D, ts, rfl, fun b o e => ?_, (upd_ne nDa).trans hD2, by rw [lt, lk], fun t ht => ?_⟩
        · by_cases hb : b = a
          · rw [hb] at e ⊢
            rw [s1 _ _ at'] at e
            rw [upd_same]; exact e
          · rw [upd_ne hb]
            exact s2 _ _ ((upd_ne hb).trans e)
        · have nta : t ≠ a := fun e => by
            have h := all t ht
            rw [e, hdl] at h; cases h
          rw [upd_ne nta]
          exact all t ht
    rintro σ' H2 ⟨dD, ts, rfl, s2, hdD, lt, all⟩
    -- all are alike
    have lts : 0 < ts.length := by rw [lt]; exact List.length_pos_iff.mpr ok.ne
    refine ⟨_, rfl, dD, rfl, ⟨_, SqL.of hdD⟩, fun D hD => ?_⟩
    refine lc_true (walk_list (K := K) (a := dD) (xs := ts.map V.ref)) (by rw [List.length_map]; omega) hD (fun H' s => SqL.of (s _ _ hdD)) ?_ ?_
    · rintro i v H3 H3' R hi s3 ⟨rfl, hx⟩ kR
      rw [List.getElem?_map] at hx
      cases et : ts[i]? with
      | none => rw [et] at hx; cases hx
      | some t =>
        rw [et] at hx
        obtain rfl : V.ref t = v := Option.some.inj hx
        obtain ⟨t0, e0⟩ : ∃ t0, ts[0]? = some t0 := ⟨_, List.getElem?_eq_getElem lts⟩
        refine at_name (σ' := [some (.ref a), some (.ref dD), none, some (.ref t), none]) rfl ⟨rfl, ?_⟩
        refine ⟨_, rfl, _, rfl, dD, _, 0, _, rfl, rfl, SqL.of (s3 _ _ hdD), atI_nat (j := 0) (by rw [List.getElem?_map, e0]; rfl), ?_⟩
        refine ⟨_, _, dp_strs (SqL.of (s3 _ _ (all t (List.mem_of_getElem? et)))), dp_strs (SqL.of (s3 _ _ (all t0 (List.mem_of_getElem? e0)))), shaped_strs _ ok.dwd, shaped_strs _ ok.dwd, ?_⟩
        rw [eqv_strs, decide_eq_true rfl]
        exact kR _ (fun _ _ e => e)
    · intro H3 s3 hD3
      refine ⟨D, _, rfl, SqL.of hD3, ?_⟩
      rw [all_true]
      refine ⟨_, rfl, iteF ?_⟩
      have s13 : L2.Same H1 H3 := s2.trans s3
      have mv3 := mv1.mono s13
      have at3 : H3 a = some (.dK kvs) := s13 _ _ (s1 _ _ at')
      obtain ⟨Lds, eL⟩ : ∃ Lds : List (Addr × HO), Lds = (a, HO.dK kvs) :: (sts.zip as).map fun p => (p.2, HO.dK (dkv (row p.1))) := ⟨_, rfl⟩
      have mz : (sts.zip as).map Prod.snd = as := List.map_snd_zip (Nat.le_of_eq mv.len)
      have mL : Lds.map (·.1) = a :: as := by
        rw [eL, List.map_cons, List.map_map]
        congr 1
      have ndL : (Lds.map (·.1)).Nodup := by rw [mL]; exact mv.nda
      have hL : ∀ p ∈ Lds, H3 p.1 = some p.2 := by
        intro p hp
        rw [eL] at hp
        rcases List.mem_cons.mp hp with rfl | hp
        · exact at3
        · obtain ⟨z, hz, rfl⟩ := List.mem_map.mp hp
          obtain ⟨i, hi⟩ := List.mem_iff_getElem?.mp hz
          obtain ⟨h1, h2⟩ := List.getElem?_zip_eq_some.mp hi
          exact mv3.inn i _ _ h1 h2
      have hM : ∀ p ∈ Lds, H3 p.1 = some p.2 ∧ Mut (some p.2) := by
        intro p hp
        refine ⟨hL p hp, ?_⟩
        rw [eL] at hp
        rcases List.mem_cons.mp hp with rfl | hp
        · trivial
        · obtain ⟨z, hz, rfl⟩ := List.mem_map.mp hp
          trivial
      have inL : ∀ (i : Nat) (s : Str) (b : Addr), sts[i]? = some s → as[i]? = some b → (b, HO.dK (dkv (row s))) ∈ Lds := by
        intro i s b h1 h2
        rw [eL]
        exact List.mem_cons_of_mem _ (List.mem_map.mpr ⟨(s, b), List.mem_of_getElem? (List.getElem?_zip_eq_some.mpr ⟨h1, h2⟩), rfl⟩)
      have kvn : (kvs.map (·.1)).Nodup := by rw [keys]; exact inr_nodup ok.nd
      have there : ∀ x ∈ sts, (valV kvs (Sum.inr x)).isSome = true := by
        intro x hx
        obtain ⟨i, hi⟩ := List.mem_iff_getElem?.mp hx
        have hlt := (List.getElem?_eq_some_iff.mp hi).1
        obtain ⟨b, hb⟩ : ∃ b, as[i]? = some b := ⟨_, List.getElem?_eq_getElem (by rw [mv.len]; exact hlt)⟩
        have m : ((Sum.inr x : Key), V.ref b) ∈ kvs := by
          rw [ekv]
          exact List.mem_map.mpr ⟨(x, b), List.mem_of_getElem? (List.getElem?_zip_eq_some.mpr ⟨hi, hb⟩), rfl⟩
        rw [valV_mem kvn m]
        rfl
      refine ⟨Lds.length, locks_read Lds H3 _ ndL hM fun H4 R fz kR => ?_⟩
      obtain ⟨oda, hfa⟩ := fz.1 (a, HO.dK kvs) (by rw [eL]; exact List.mem_cons_self)
      refine ⟨_, rfl, a, oda, kvs, rfl, hfa, fun D2 hD2 => ?_⟩
      have nD2 : D2 ∉ Lds.map (·.1) := fun h => by
        obtain ⟨p, hp, e⟩ := List.mem_map.mp h
        obtain ⟨od, ho⟩ := fz.1 p hp
        rw [e, hD2] at ho
        cases ho
      refine ⟨fun i n H' => n = kvs.length - i ∧ i ≤ kvs.length ∧ L2.Same H4 H' ∧ ∃ c, c ≤ i * 60 ∧ H' D2 = some (.lst ((List.replicate c true).map V.bl)), ⟨_, rfl, Nat.zero_le _, Same.new hD2, 0, Nat.le_refl _, upd_same⟩, ?_⟩
      rintro i n H5 ⟨rfl, hi, s5, c, hc, hD5⟩
      have w := walk_values (d := a) (o := oda) (kvs := kvs)
      by_cases hlt : i < kvs.length
      · refine .inr ⟨w.goes i H5 hlt (s5 _ _ hfa), fun H' => L2.Same H4 H' ∧ ∃ c, c ≤ (i + 1) * 60 ∧ H' D2 = some (.lst ((List.replicate c true).map V.bl)), fun H' h => ⟨_, by omega, rfl, by omega, h.1, h.2⟩, fun v H6 y => ?_⟩
        obtain ⟨rfl, kk, hk⟩ := w.yields i H5 v H6 hlt (s5 _ _ hfa) y
        obtain ⟨s, b, es, eb, rfl, rfl⟩ := get i kk v hk
        obtain ⟨odb, hfb⟩ := fz.1 _ (inL i s b es eb)
        have ms := List.mem_of_getElem? es
        have lr : (dkv (row s)).length ≤ 60 := by
          have := (ok.ks s ms).length_eq
          rw [keysD_len] at this
          rw [dkv_len]; omega
        refine at_name (σ' := [some (.ref a), some (.ref dD), some (.ref b), none, none]) rfl ⟨rfl, yes_if ?_⟩
        refine ⟨_, rfl, b, odb, dkv (row s), rfl, s5 _ _ hfb, ?_⟩
        refine ⟨fun j n H' => n = (dkv (row s)).length - j ∧ j ≤ (dkv (row s)).length ∧ L2.Same H4 H' ∧ ∃ c', c' ≤ c + j ∧ H' D2 = some (.lst ((List.replicate c' true).map V.bl)), ⟨_, rfl, Nat.zero_le _, s5, c, Nat.le_refl _, hD5⟩, ?_⟩
        rintro j n H7 ⟨rfl, hj, s7, c', hc', hD7⟩
        have w1 := walk_values (d := b) (o := odb) (kvs := dkv (row s))
        by_cases jlt : j < (dkv (row s)).length
        · refine .inr ⟨w1.goes j H7 jlt (s7 _ _ hfb), fun H' => L2.Same H4 H' ∧ ∃ c', c' ≤ c + (j + 1) ∧ H' D2 = some (.lst ((List.replicate c' true).map V.bl)), fun H' h => ⟨_, by omega, rfl, by omega, h.1, h.2⟩, fun v H8 y => ?_⟩
          obtain ⟨rfl, kk, hk2⟩ := w1.yields j H7 v H8 jlt (s7 _ _ hfb) y
          obtain ⟨z, hz, e⟩ := List.mem_map.mp (List.mem_of_getElem? hk2)
          obtain ⟨rfl, rfl⟩ : Sum.inr z.1 = kk ∧ V.str z.2 = v := ⟨congrArg Prod.fst e, congrArg Prod.snd e⟩
          refine at_name (σ' := [some (.ref a), some (.ref dD), some (.ref b), none, some (.str z.2)]) rfl ⟨rfl, yes_if ?_⟩
          refine ⟨_, rfl, _, _, _, _, true, rfl, .ty _, .base (.str _), kit_ty (by decide +kernel), _, rfl, iteT ?_⟩
          refine ⟨_, rfl, _, rfl, a, _, rfl, .inl ⟨kvs, Sum.inr z.2, .inr ⟨oda, s7 _ _ hfa⟩, rfl, rfl⟩, ?_⟩
          rw [there z.2 (ok.vs s ms z hz)]
          refine ⟨_, hD7, by rw [List.length_map, List.length_replicate, sizeLine_eq]; omega, ?_, c' + 1, by omega, ?_⟩
          · exact fun b o e => by rw [upd_ne (ne_of_none e hD2)]; exact s7 _ _ e
          · rw [upd_same, List.replicate_succ', List.map_append]
            rfl
        · have ej : j = (dkv (row s)).length := by omega
          subst ej
          exact .inl ⟨w1.stops H7 (s7 _ _ hfb), s7, c', by omega, hD7⟩
      · have ei : i = kvs.length := by omega
        subst ei
        refine .inl ⟨w.stops H5 (s5 _ _ hfa), kR _ H5 (fun p hp => ?_) ?_⟩
        · obtain ⟨od, ho⟩ := fz.1 p hp
          rw [ho]
          exact s5 _ _ ho
        · refine ⟨D2, _, rfl, SqL.of ((unfz_no nD2).trans hD5), ?_⟩
          rw [all_true]
          exact k _ (s1.trans (s13.trans (unfz_same ndL hL fz s5)))
end
end KT
set_option Elab.async false
set_option linter.all false
set_option maxRecDepth 100000
set_option maxHeartbeats 4000000
set_option pp.maxSteps 900
namespace KT
open PySem L2 PyProof.Rows DTp TxS DKq
section
variable {K : PySem.W.Frag}
/-- {x: (a new object) for x in list} -/
theorem dcR_list {tl tk tv : TE} {tg iter : Expr} {ifs : List Expr} {g : TG} {vs : List Nat} {σ : L2.St} {H : Hp} {Q : VK} {xs : List Str} (O : Str → HO) (few : xs.length ≤ 1000) (ndx : xs.Nodup)
    (hl : ∀ R : VK, (∀ l H1, L2.Same H H1 → H1 l = some (.lst (xs.map V.str)) → R (.ref l) H1) → tl σ H R)
    (step : ∀ x H2 (R : V → V → Hp → Prop) (Cn : L2.St → Hp → Prop), (∀ σ2 H3, (tk σ2 H3 fun y H4 => tv σ2 H4 fun z H5 => R y z H5) → Cn σ2 H3) → x ∈ xs → L2.Same H H2 → (∀ b H3, L2.Same H2 H3 → H2 b = none → H3 b = some (O x) → R (.str x) (.ref b) H3) → g (.str x) (wipe σ vs) H2 fun σ2 H3 => wipe σ2 vs = wipe σ vs ∧ Cn σ2 H3)
    (k : ∀ q (bs : List Addr) H', L2.Same H H' → H q = none → bs.length = xs.length → (q :: bs).Nodup → (∀ b ∈ bs, H b = none) → H' q = some (.dK ((xs.zip bs).map fun p => ((Sum.inr p.1 : Key), V.ref p.2))) → (∀ (i : Nat) s b, xs[i]? = some s → bs[i]? = some b → H' b = some (O s)) → Q (.ref q) H') :
    GC.tCo (fun _ => .dK []) ⟨tg, iter, ifs, iList K tl, g, tYes, vs⟩ [] (GC.emK tk tv) σ H Q := by
  refine hl _ fun l H1 s1 h1 => ?_
  refine ⟨l, rfl, ⟨_, SqL.of h1⟩, fun D hD => ?_⟩
  refine GC.lp_it (walk_list (K := K) (a := l) (xs := xs.map V.str)) (fun n H' => L2.Same H1 H' ∧ ∃ bs : List Addr, bs.length = n ∧ (D :: bs).Nodup ∧ (∀ b ∈ bs, H1 b = none) ∧ H' D = some (.dK (((xs.take n).zip bs).map fun p => ((Sum.inr p.1 : Key), V.ref p.2))) ∧ ∀ (i : Nat) s b, xs[i]? = some s → bs[i]? = some b → H' b = some (O s)) ?_ ?_ ?_ ?_
  · exact ⟨Same.new hD, [], rfl, by simp, by simp, upd_same, by simp⟩
  · rintro i H2 _ ⟨s2, _⟩
    exact SqL.of (s2 _ _ h1)
  · rintro n x H0 H2 hn ⟨s2, bs, lb, nd2, fr, hD2, ob⟩ ⟨rfl, hx⟩
    rw [List.length_map] at hn
    obtain ⟨y, ey, rfl⟩ := str_get hx
    refine step y _ (fun a z H3 => ∃ (kvs2 : List (Key × V)) (k : Key), a = kV k ∧ H3 D = some (.dK kvs2) ∧ kvs2.length < sizeLine ∧ (L2.Same H1 (upd H3 D (.dK (putK kvs2 k z))) ∧ ∃ bs : List Addr, bs.length = n + 1 ∧ (D :: bs).Nodup ∧ (∀ b ∈ bs, H1 b = none) ∧ (upd H3 D (.dK (putK kvs2 k z))) D = some (.dK (((xs.take (n + 1)).zip bs).map fun p => ((Sum.inr p.1 : Key), V.ref p.2))) ∧ ∀ (i : Nat) s b, xs[i]? = some s → bs[i]? = some b → (upd H3 D (.dK (putK kvs2 k z))) b = some (O s))) _ (fun σ2 H3 hh => hh) (List.mem_of_getElem? ey) (s1.trans s2) fun b H3 s3 hb0 hb => ?_
    have lz : ((xs.take n).zip bs).length = n := by rw [List.length_zip, List.length_take, lb]; omega
    have nbD : b ≠ D := fun e => by rw [e, hD2] at hb0; cases hb0
    have nDb : ∀ c ∈ bs, c ≠ D := fun c hc e => (List.nodup_cons.mp nd2).1 (e ▸ hc)
    have keys : (((xs.take n).zip bs).map fun p => ((Sum.inr p.1 : Key), V.ref p.2)).map (·.1) = (xs.take n).map Sum.inr := by
      rw [List.map_map]
      have e : ((xs.take n).zip bs).map Prod.fst = xs.take n := List.map_fst_zip (by rw [List.length_take, lb]; omega)
      conv => rhs; rw [← e, List.map_map]
      rfl
    have new : (Sum.inr y : Key) ∉ (((xs.take n).zip bs).map fun p => ((Sum.inr p.1 : Key), V.ref p.2)).map (·.1) := by
      rw [keys]
      intro h
      obtain ⟨z, hz, e⟩ := List.mem_map.mp h
      obtain rfl : z = y := Sum.inr.inj e
      have t := take_next' ey
      have nt : (xs.take (n + 1)).Nodup := List.Pairwise.sublist (List.take_sublist _ _) ndx
      rw [t] at nt
      exact (List.nodup_append.mp nt).2.2 z hz z (List.mem_singleton.mpr rfl) rfl
    refine ⟨_, Sum.inr y, rfl, s3 _ _ hD2, ?_, fun c o e => ?_, bs ++ [b], by rw [List.length_append, lb]; rfl, ?_, ?_, ?_, ?_⟩
    · rw [List.length_map, lz]
      exact small1000 (by omega)
    · rw [upd_ne (ne_of_none e hD)]
      exact s3 _ _ (s2 _ _ e)
    · have nb : b ∉ bs := fun hc => by
        obtain ⟨i, hi⟩ := List.mem_iff_getElem?.mp hc
        have hlt := (List.getElem?_eq_some_iff.mp hi).1
        have := ob i xs[i] b (List.getElem?_eq_getElem (by omega)) hi
        rw [hb0] at this
        cases this
      rw [← List.cons_append]
      exact List.nodup_append.mpr ⟨nd2, by simp, fun c hc d hd e => by
        rw [List.mem_singleton.mp hd] at e
        rcases List.mem_cons.mp hc with h | h
        · exact nbD (e.symm.trans h)
        · exact nb (e ▸ h)⟩
    · intro c hc
      rcases List.mem_append.mp hc with h | h
      · exact fr c h
      · rw [List.mem_singleton.mp h]
        cases e : H1 b with
        | none => rfl
        | some o => rw [s2 _ _ e] at hb0; cases hb0
    · rw [upd_same, putK_new new, take_next' ey, List.zip_append (by rw [List.length_take, lb]; omega), List.map_append]
      rfl
    · intro i s c h1' h2'
      by_cases hi : i < n
      · rw [List.getElem?_append_left (by omega)] at h2'
        rw [upd_ne (nDb c (List.mem_of_getElem? h2'))]
        exact s3 _ _ (ob i s c h1' h2')
      · rw [List.getElem?_append_right (by omega)] at h2'
        have hi2 : i = n := by
          have := (List.getElem?_eq_some_iff.mp h2').1
          rw [List.length_singleton] at this
          omega
        rw [hi2, lb, Nat.sub_self] at h2'
        obtain rfl : b = c := Option.some.inj h2'
        rw [hi2, ey] at h1'
        obtain rfl := Option.some.inj h1'
        rw [upd_ne nbD]
        exact hb
  · rintro H2 ⟨s2, bs, lb, nd2, fr, hD2, ob⟩
    rw [List.length_map] at lb
    rw [List.length_map, List.take_length] at hD2
    exact k D bs H2 (s1.trans s2) (s1.free hD) lb nd2 (fun b hb => s1.free (fr b hb)) hD2 ob
end
structure GTx (K : PySem.W.Frag) (mg : Str → Option Value) (G : Addr) : Prop where
  cl : L2.Cls K G
  nM : NoAttr K G "_moves"
  mgG : mg "Store" = some (.ref G)
def gflds (m : Addr) : List (Str × V) := [("_moves", .ref m)]
structure StoAt (G : Addr) (H : Hp) (p dx m : Addr) (sts : List Str) (as : List Addr) (row : Str → List (Str × Str)) : Prop where
  ob : H p = some (.ins G dx (gflds m))
  mv : MvAt H m sts as row
section
variable {P : Program} {w : World} {K : PySem.W.Frag} {mg : Str → Option Value} {base : Heap} {C S G : Addr}
/-- the rows, their deeds in order -/
def rowD (ds : List Str) (row : Str → List (Str × Str)) (s : Str) : List (Str × Str) := ds.map fun o => (o, kof (row s) o)
def spGInit (G : Addr) : Sp := fun vs H Q _ => ∃ (p dx a : Addr) (sts : List Str) (as : List Addr) (row : Str → List (Str × Str)) (ds : List Str), vs = [.ref p, .ref a] ∧ H p = some (.ins G dx []) ∧ MvAt H a sts as row ∧ MvOk sts row ds ∧ sts.length < 64 ∧
  ∀ H' m bs, StoAt G H' p dx m (ascOf sts) bs (rowD ds row) → H m = none → (∀ b ∈ bs, H b = none) → (∀ b o, H b = some o → b ≠ p → H' b = some o) → Q .non H'
/-- the scope of the outer comprehension -/
abbrev scSt : Scope := { kind := .function, names := [(".0", .local), ("state", .cell), ("sorted", .globalImplicit), ("moves", .cell)], isGenerator := false, isCoroutine := false }
abbrev nGInit : List Str := ["self", "moves", "state", "deed"]
theorem scGInit : FnScope nGInit ["self", "moves"] (defScope gInit) := ⟨rfl, rfl, rfl, by decide +kernel, rfl, by decide +kernel, by decide +kernel⟩
theorem ok_ginit {g : Addr} {fd : FuncData} (F : Fun K "__init__" "Store.__init__" gInit g fd) (T : GTx K mg G) (Z : Blp mg) (M : Cee P w K mg base 3 "_are_moves" ["moves"] spAreMoves) : FnOk P w K mg base CX0 4 g fd ["self", "moves"] (spGInit G) := by
  refine F.ok scGInit (fun vs H Q E h => ?_) (fun cdv A outer s H vs Q E hr h => ?_)
  · obtain ⟨p, dx, a, sts, as, row, ds, rfl, _⟩ := h
    rfl
  · obtain ⟨p, dx, a, sts, as, row, ds, rfl, hp, mv, ok, l64, k⟩ := h
    have nd := scGInit.nd
    refine ⟨_, pss_cons (ps_if (pt_not (pt_val (pe_c M hr rfl (pa_cons (pv 1) pa_nil)))) (pss_one ps_never) pss_nil)
      (pss_one (ps_fld (pv 0) (GC.pe_dcK (own := [("state", 2)]) (g := gName 2) (tt := tYes) (tk := tVar 2) (tv := GC.tCo (fun _ => .dK []) ⟨_, _, [], iList K (tCB rSortD (tCons (tDGet (tVar 1) (tVar 2)) tNil)), gName 3, tYes, [3]⟩ [] (GC.emK (tVar 3) (tDGet (tDGet (tVar 1) (tVar 2)) (tVar 3)))) rfl nd (pi_list (pe_callB (cr_sortD rfl) (by rfl) Z.sorted (by decide +kernel) (pa_cons (pv 1) pa_nil)))
          (blkOk_by (own := [("state", 2)]) (N := nGInit) (sc := defScope gInit) (by decide +kernel)) (fun _ _ _ _ _ => pg_name (i := 2) nd rfl (Or.inr rfl)) (fun _ _ _ _ _ => pts_nil) GC.cl0 trivial (fun _ _ _ _ _ => pv 2)
          (fun _ _ _ _ _ => GC.pe_dcK (own := [("deed", 3)]) (g := gName 3) (tt := tYes) (tk := tVar 3) (tv := tDGet (tDGet (tVar 1) (tVar 2)) (tVar 3)) rfl nd (pi_list (pe_callB (cr_sortD rfl) (by rfl) Z.sorted (by decide +kernel) (pa_cons (pe_dget (hu_of hr) (pv 1) (pv 2) (fun _ _ => rfl)) pa_nil)))
            (blkOk_by (own := [("deed", 3)]) (N := nGInit) (sc := scSt) (by decide +kernel)) (fun _ _ _ _ _ => pg_name (i := 3) nd rfl (Or.inl rfl)) (fun _ _ _ _ _ => pts_nil) GC.cl0 trivial (fun _ _ _ _ _ => pv 3)
            (fun _ _ _ _ _ => pe_dget (hu_of hr) (pe_dget (hu_of hr) (pv 1) (pv 2) (fun _ _ => rfl)) (pv 3) (fun _ _ => rfl)))) rfl)), ?_⟩
    have dfew := ok.dfew
    have asc := ascOf_asc ok.nd
    have pm0 := ascOf_perm sts
    refine ⟨_, rfl, a, sts, as, row, ds, rfl, mv, ok, fun H1 s1 => ⟨_, rfl, iteF ?_⟩⟩
    have mv1 := mv.mono s1
    have dgm : ∀ {H2 : Hp} (x : Str), L2.Same H1 H2 → x ∈ sts → ∃ b, H2 b = some (.dK (dkv (row x))) ∧ DGet H2 a (.str x) (some (.ref b)) := by
      intro H2 x s2 hx
      have mv2 := mv1.mono s2
      obtain ⟨i, hi⟩ := List.mem_iff_getElem?.mp hx
      have hlt := (List.getElem?_eq_some_iff.mp hi).1
      obtain ⟨b, hb⟩ : ∃ b, as[i]? = some b := ⟨_, List.getElem?_eq_getElem (by rw [mv.len]; exact hlt)⟩
      have m : ((Sum.inr x : Key), V.ref b) ∈ (sts.zip as).map fun p => ((Sum.inr p.1 : Key), V.ref p.2) := List.mem_map.mpr ⟨(x, b), List.mem_of_getElem? (List.getElem?_zip_eq_some.mpr ⟨hi, hb⟩), rfl⟩
      have dg := DGet.k (k := Sum.inr x) mv2.at'
      rw [valV_mem (by rw [mv2.keys]; exact inr_nodup ok.nd) m] at dg
      exact ⟨b, mv2.inn i x b hi hb, dg⟩
    dsimp only [tNext, tSeq, sFld]
    refine dcR_list (K := K) (xs := ascOf sts) (fun s => .dK (dkv (rowD ds row s))) (by rw [pm0.length_eq]; omega) asc.nodup ?_ ?_ ?_
    · intro R hR
      refine ⟨_, rfl, a, _, sts, rfl, .inl mv1.at', mv1.keys, l64, fun ys q pm so hq0 => ?_⟩
      have ey : ys = ascOf sts := (sortedS_asc so (pm.nodup_iff.mpr ok.nd)).eq asc (pm.trans pm0.symm)
      subst ey
      exact hR q _ (Same.new hq0) upd_same
    · intro x H2 R Cn kc hx s2 kR
      have mx : x ∈ sts := pm0.mem_iff.mp hx
      obtain ⟨b, hb, dg⟩ := dgm x s2 mx
      refine at_name (σ' := [some (.ref p), some (.ref a), some (.str x), none]) rfl ⟨rfl, kc _ _ ?_⟩
      refine ⟨_, rfl, ?_⟩
      refine dcS_list (K := K) (xs := ds) (key := fun y => y) (val := fun y => .str (kof (row x) y)) (fun _ H' => L2.Same H2 H') (by omega) ?_ ?_ ?_
      · intro R2 hR2
        have pk := ok.ks x mx
        refine ⟨_, rfl, _, rfl, a, _, rfl, dg, b, dkv (row x), keysD (row x), rfl, .inl hb, dkv_keys _, by rw [pk.length_eq]; omega, fun ys q pm so hq0 => ?_⟩
        have ey : ys = ds := (sortedS_asc so (pm.nodup_iff.mpr (pk.nodup_iff.mpr ok.asc.nodup))).eq ok.asc (pm.trans pk)
        subst ey
        exact hR2 q _ upd_same (Same.new hq0)
      · intro l y H3 H4 R3 Cn3 kc3 hy s3 s4 kR3
        have hy2 : y ∈ keysD (row x) := (ok.ks x mx).mem_iff.mpr hy
        refine at_name (σ' := [some (.ref p), some (.ref a), some (.str x), some (.str y)]) rfl ⟨rfl, kc3 _ _ ?_⟩
        obtain ⟨b2, hb2, dg2⟩ := dgm x (s2.trans (L2.Same.trans s3 s4)) mx
        have dg3 := DGet.k (k := Sum.inr y) hb2
        rw [valV_dkv ((ok.ks x mx).nodup_iff.mpr ok.asc.nodup) hy2] at dg3
        exact ⟨_, rfl, _, rfl, _, rfl, a, _, rfl, dg2, _, rfl, b2, _, rfl, dg3, kR3 _ (fun _ _ e => e)⟩
      · intro q l H3 H4 s3 s4 hq0 hq
        rw [mergeK_strs ok.asc.nodup, show (ds.map fun x_1 => ((Sum.inr x_1 : Key), V.str (kof (row x) x_1))) = dkv (rowD ds row x) by unfold dkv rowD; rw [List.map_map]; rfl] at hq
        exact kR q H4 (L2.Same.trans s3 s4) (L2.Same.free s3 hq0) hq
    · intro q bs H2 s2 hq0 lb nd2 fr hq ob
      have hp2 := s2 _ _ (s1 _ _ hp)
      have npq : q ≠ p := fun e => by rw [e, s1 _ _ hp] at hq0; cases hq0
      have npb : ∀ b ∈ bs, b ≠ p := fun b hb e => by
        have := fr b hb
        rw [e, s1 _ _ hp] at this; cases this
      refine ⟨_, rfl, p, G, dx, [], rfl, hp2, T.cl, T.nM, (by show 0 < 1000; decide), ?_⟩
      refine k _ q bs ⟨upd_same, ⟨(upd_ne npq).trans hq, lb, nd2, fun i s b h1 h2 => (upd_ne (npb b (List.mem_of_getElem? h2))).trans (ob i s b h1 h2)⟩⟩ (s1.free hq0) (fun b hb => s1.free (fr b hb)) fun b o e ne => ?_
      rw [upd_ne ne]
      exact s2 _ _ (s1 _ _ e)
end
end KT
set_option Elab.async false
set_option linter.all false
set_option maxRecDepth 100000
set_option maxHeartbeats 4000000
set_option pp.maxSteps 900
namespace KT
open PySem L2 PyProof.Rows DTp TxS DKq
section
variable {K : PySem.W.Frag}
/-- {x: (a new object) for x in dict} -/
theorem dcR_keys {te0 tk tv : TE} {tg iter : Expr} {ifs : List Expr} {g : TG} {vs : List Nat} {σ : L2.St} {H : Hp} {Q : VK} {d : Addr} {kvs : List (Key × V)} {xs : List Str} (O : Str → HO) (hi : ∀ od (R : VK), R (.ref d) (upd H d (.frz od (.dK kvs))) → te0 σ (upd H d (.frz od (.dK kvs))) R) (hd : H d = some (.dK kvs)) (ek : kvs.map (·.1) = xs.map Sum.inr) (few : xs.length ≤ 1000) (ndx : xs.Nodup)
    (step : ∀ x od H2 (R : V → V → Hp → Prop) (Cn : L2.St → Hp → Prop), (∀ σ2 H3, (tk σ2 H3 fun y H4 => tv σ2 H4 fun z H5 => R y z H5) → Cn σ2 H3) → x ∈ xs → L2.Same (upd H d (.frz od (.dK kvs))) H2 → (∀ b H3, L2.Same H2 H3 → H2 b = none → H3 b = some (O x) → R (.str x) (.ref b) H3) → g (.str x) (wipe σ vs) H2 fun σ2 H3 => wipe σ2 vs = wipe σ vs ∧ Cn σ2 H3)
    (k : ∀ q (bs : List Addr) H', L2.Same H H' → H q = none → bs.length = xs.length → (q :: bs).Nodup → (∀ b ∈ bs, H b = none) → H' q = some (.dK ((xs.zip bs).map fun p => ((Sum.inr p.1 : Key), V.ref p.2))) → (∀ (i : Nat) s b, xs[i]? = some s → bs[i]? = some b → H' b = some (O s)) → Q (.ref q) H') :
    tLockE (GC.tCo (fun _ => .dK []) ⟨tg, iter, ifs, iKeys te0, g, tYes, vs⟩ [] (GC.emK tk tv)) σ H Q := by
  have lk : kvs.length = xs.length := by have := congrArg List.length ek; rw [List.length_map, List.length_map] at this; exact this
  refine ⟨d, .dK kvs, hd, trivial, fun od => ?_⟩
  refine hi od _ ⟨d, od, rfl, .inl ⟨kvs, upd_same, fun D hD => ?_⟩⟩
  obtain ⟨H1, eH1⟩ : ∃ H1, H1 = upd H d (.frz od (.dK kvs)) := ⟨_, rfl⟩
  rw [← eH1] at hD ⊢
  have hfd : H1 d = some (.frz od (.dK kvs)) := by rw [eH1]; exact upd_same
  have nDd : D ≠ d := fun e => by rw [e, hfd] at hD; cases hD
  refine GC.lp_it (walk_keys (d := d) (o := od) (kvs := kvs)) (fun n H' => L2.Same H1 H' ∧ ∃ bs : List Addr, bs.length = n ∧ (D :: bs).Nodup ∧ (∀ b ∈ bs, H1 b = none) ∧ H' D = some (.dK (((xs.take n).zip bs).map fun p => ((Sum.inr p.1 : Key), V.ref p.2))) ∧ ∀ (i : Nat) s b, xs[i]? = some s → bs[i]? = some b → H' b = some (O s)) ?_ ?_ ?_ ?_
  · exact ⟨Same.new hD, [], rfl, by simp, by simp, upd_same, by simp⟩
  · rintro i H2 _ ⟨s2, _⟩
    exact s2 _ _ hfd
  · rintro n x H0 H2 hn ⟨s2, bs, lb, nd2, fr, hD2, ob⟩ ⟨rfl, kk, v2, hk, rfl⟩
    rw [lk] at hn
    have hx : (kvs.map (·.1))[n]? = some kk := by rw [List.getElem?_map, hk]; rfl
    rw [ek, List.getElem?_map, List.getElem?_eq_getElem hn] at hx
    obtain rfl : Sum.inr xs[n] = kk := Option.some.inj hx
    obtain ⟨y, hyx⟩ : ∃ y, y = xs[n] := ⟨_, rfl⟩
    have ey : xs[n]? = some y := by rw [hyx]; exact List.getElem?_eq_getElem hn
    rw [← hyx]
    refine step y od _ (fun a z H3 => ∃ (kvs2 : List (Key × V)) (k : Key), a = kV k ∧ H3 D = some (.dK kvs2) ∧ kvs2.length < sizeLine ∧ (L2.Same H1 (upd H3 D (.dK (putK kvs2 k z))) ∧ ∃ bs : List Addr, bs.length = n + 1 ∧ (D :: bs).Nodup ∧ (∀ b ∈ bs, H1 b = none) ∧ (upd H3 D (.dK (putK kvs2 k z))) D = some (.dK (((xs.take (n + 1)).zip bs).map fun p => ((Sum.inr p.1 : Key), V.ref p.2))) ∧ ∀ (i : Nat) s b, xs[i]? = some s → bs[i]? = some b → (upd H3 D (.dK (putK kvs2 k z))) b = some (O s))) _ (fun σ2 H3 hh => hh) (List.mem_of_getElem? ey) (by rw [← eH1]; exact s2) fun b H3 s3 hb0 hb => ?_
    have lz : ((xs.take n).zip bs).length = n := by rw [List.length_zip, List.length_take, lb]; omega
    have nbD : b ≠ D := fun e => by rw [e, hD2] at hb0; cases hb0
    have nDb : ∀ c ∈ bs, c ≠ D := fun c hc e => (List.nodup_cons.mp nd2).1 (e ▸ hc)
    have keys : (((xs.take n).zip bs).map fun p => ((Sum.inr p.1 : Key), V.ref p.2)).map (·.1) = (xs.take n).map Sum.inr := by
      rw [List.map_map]
      have e : ((xs.take n).zip bs).map Prod.fst = xs.take n := List.map_fst_zip (by rw [List.length_take, lb]; omega)
      conv => rhs; rw [← e, List.map_map]
      rfl
    have new : (Sum.inr y : Key) ∉ (((xs.take n).zip bs).map fun p => ((Sum.inr p.1 : Key), V.ref p.2)).map (·.1) := by
      rw [keys]
      intro h
      obtain ⟨z, hz, e⟩ := List.mem_map.mp h
      obtain rfl : z = y := Sum.inr.inj e
      have t := take_next' ey
      have nt : (xs.take (n + 1)).Nodup := List.Pairwise.sublist (List.take_sublist _ _) ndx
      rw [t] at nt
      exact (List.nodup_append.mp nt).2.2 z hz z (List.mem_singleton.mpr rfl) rfl
    refine ⟨_, Sum.inr y, rfl, s3 _ _ hD2, ?_, fun c o e => ?_, bs ++ [b], by rw [List.length_append, lb]; rfl, ?_, ?_, ?_, ?_⟩
    · rw [List.length_map, lz]
      exact small1000 (by omega)
    · rw [upd_ne (ne_of_none e hD)]
      exact s3 _ _ (s2 _ _ e)
    · have nb : b ∉ bs := fun hc => by
        obtain ⟨i, hi⟩ := List.mem_iff_getElem?.mp hc
        have hlt := (List.getElem?_eq_some_iff.mp hi).1
        have := ob i xs[i] b (List.getElem?_eq_getElem (by omega)) hi
        rw [hb0] at this
        cases this
      rw [← List.cons_append]
      exact List.nodup_append.mpr ⟨nd2, by simp, fun c hc d hd e => by
        rw [List.mem_singleton.mp hd] at e
        rcases List.mem_cons.mp hc with h | h
        · exact nbD (e.symm.trans h)
        · exact nb (e ▸ h)⟩
    · intro c hc
      rcases List.mem_append.mp hc with h | h
      · exact fr c h
      · rw [List.mem_singleton.mp h]
        cases e : H1 b with
        | none => rfl
        | some o => rw [s2 _ _ e] at hb0; cases hb0
    · rw [upd_same, putK_new new, take_next' ey, List.zip_append (by rw [List.length_take, lb]; omega), List.map_append]
      rfl
    · intro i s c h1' h2'
      by_cases hi : i < n
      · rw [List.getElem?_append_left (by omega)] at h2'
        rw [upd_ne (nDb c (List.mem_of_getElem? h2'))]
        exact s3 _ _ (ob i s c h1' h2')
      · rw [List.getElem?_append_right (by omega)] at h2'
        have hi2 : i = n := by
          have := (List.getElem?_eq_some_iff.mp h2').1
          rw [List.length_singleton] at this
          omega
        rw [hi2, lb, Nat.sub_self] at h2'
        obtain rfl : b = c := Option.some.inj h2'
        rw [hi2, ey] at h1'
        obtain rfl := Option.some.inj h1'
        rw [upd_ne nbD]
        exact hb
  · rintro H2 ⟨s2, bs, lb, nd2, fr, hD2, ob⟩
    rw [lk] at lb
    rw [lk, List.take_length] at hD2
    have hdl : H2 d = some (.frz od (.dK kvs)) := s2 _ _ hfd
    have ne1 : ∀ b, H1 b = none → b ≠ d := fun b h e => by rw [e, hfd] at h; cases h
    have fr0 : ∀ b, H1 b = none → H b = none := fun b h => by
      have z := ne1 b h
      rw [eH1, upd_ne z] at h
      exact h
    refine ⟨hdl, k D bs _ (fun b o e => ?_) (fr0 D hD) lb nd2 (fun b hb => fr0 b (fr b hb)) ((upd_ne nDd).trans hD2) fun i s b h1 h2 => (upd_ne (ne1 b (fr b (List.mem_of_getElem? h2)))).trans (ob i s b h1 h2)⟩
    by_cases hb : b = d
    · rw [hb] at e ⊢
      rw [hd] at e
      rw [upd_same]; exact e
    · rw [upd_ne hb]
      refine s2 _ _ ?_
      rw [eH1, upd_ne hb]
      exact e
end
section
variable {P : Program} {w : World} {K : PySem.W.Frag} {mg : Str → Option Value} {base : Heap} {C S G : Addr}
def rDictD : List V → Hp → VK → Prop := fun xs H Q => ∃ (a : Addr) (kvs : List (Key × V)), xs = [.ref a] ∧ Rd H a (.dK kvs) ∧ ∀ p, H p = none → Q (.ref p) (upd H p (.dK kvs))
theorem cr_dictD {X : Cx} : CallR X (.type "dict") rDictD := call_dictD
def spGMoves (G : Addr) : Sp := fun vs H Q _ => ∃ (p dx m : Addr) (sts : List Str) (as : List Addr) (row : Str → List (Str × Str)) (ds : List Str), vs = [.ref p] ∧ StoAt G H p dx m sts as row ∧ MvOk sts row ds ∧
  ∀ q bs H', L2.Same H H' → H q = none → (∀ b ∈ bs, H b = none) → MvAt H' q sts bs row → Q (.ref q) H'
abbrev nGMoves : List Str := ["self", "state"]
theorem scGMoves : FnScope nGMoves ["self"] (defScope gMoves) := ⟨rfl, rfl, rfl, by decide +kernel, rfl, by decide +kernel, by decide +kernel⟩
theorem ok_gmoves {g : Addr} {fd : FuncData} (F : Fun K "moves" "Store.moves" gMoves g fd) (T : GTx K mg G) (Z : Blp mg) : FnOk P w K mg base CX0 1 g fd ["self"] (spGMoves G) := by
  refine F.ok scGMoves (fun vs H Q E h => ?_) (fun cdv A outer s H vs Q E hr h => ?_)
  · obtain ⟨p, dx, m, sts, as, row, ds, rfl, _⟩ := h
    rfl
  · obtain ⟨p, dx, m, sts, as, row, ds, rfl, st, ok, k⟩ := h
    have nd := scGMoves.nd
    refine ⟨_, pss_one (ps_ret (pe_lock (GC.pe_dcK (own := [("state", 1)]) (g := gName 1) (tt := tYes) (tk := tVar 1) (tv := tCB rDictD (tCons (tDGet (L2.tFld K (tVar 0) "_moves") (tVar 1)) tNil)) rfl nd (pi_keys (pe_fld (pv 0) rfl)) (blkOk_by (own := [("state", 1)]) (N := nGMoves) (sc := defScope gMoves) (by decide +kernel)) (fun _ _ _ _ _ => pg_name (i := 1) nd rfl (Or.inl rfl)) (fun _ _ _ _ _ => pts_nil) GC.cl0 trivial (fun _ _ _ _ _ => pv 1)
      (fun _ _ _ _ _ => pe_callTy cr_dictD (by rfl) Z.dict (by decide +kernel) (pa_cons (pe_dget (hu_of hr) (pe_fld (pv 0) rfl) (pv 1) (fun _ _ => rfl)) pa_nil))))), ?_⟩
    obtain ⟨kvs, ekv⟩ : ∃ kvs, kvs = (sts.zip as).map fun p => ((Sum.inr p.1 : Key), V.ref p.2) := ⟨_, rfl⟩
    have hm : H m = some (.dK kvs) := by rw [ekv]; exact st.mv.at'
    have keys : kvs.map (·.1) = sts.map Sum.inr := by rw [ekv]; exact st.mv.keys
    have few := ok.few
    have npm : p ≠ m := ne_of st.ob hm (by intro z; cases z)
    refine dcR_keys (xs := sts) (kvs := kvs) (fun s => .dK (dkv (row s))) (fun od R hh => ?_) hm keys (by omega) ok.nd ?_ ?_
    · exact ⟨_, rfl, p, G, dx, _, _, rfl, (upd_ne npm).trans st.ob, T.cl, T.nM, rfl, hh⟩
    · intro x od H2 R Cn kc hx s2 kR
      obtain ⟨i, hi⟩ := List.mem_iff_getElem?.mp hx
      have hlt := (List.getElem?_eq_some_iff.mp hi).1
      obtain ⟨b, hb⟩ : ∃ b, as[i]? = some b := ⟨_, List.getElem?_eq_getElem (by rw [st.mv.len]; exact hlt)⟩
      have nbm : b ≠ m := fun e => (List.nodup_cons.mp st.mv.nda).1 (e ▸ List.mem_of_getElem? hb)
      have hb2 := s2 _ _ ((upd_ne nbm).trans (st.mv.inn i x b hi hb))
      have m1 : ((Sum.inr x : Key), V.ref b) ∈ kvs := by
        rw [ekv]
        exact List.mem_map.mpr ⟨(x, b), List.mem_of_getElem? (List.getElem?_zip_eq_some.mpr ⟨hi, hb⟩), rfl⟩
      have dg : DGet H2 m (.str x) (valV kvs (Sum.inr x)) := .inl ⟨_, Sum.inr x, .inr ⟨od, s2 _ _ upd_same⟩, rfl, rfl⟩
      rw [valV_mem (by rw [keys]; exact inr_nodup ok.nd) m1] at dg
      refine at_name (σ' := [some (.ref p), some (.str x)]) rfl ⟨rfl, kc _ _ ?_⟩
      refine ⟨_, rfl, ?_⟩
      exact ⟨_, rfl, p, G, dx, _, _, rfl, s2 _ _ ((upd_ne npm).trans st.ob), T.cl, T.nM, rfl, _, rfl, m, _, rfl, dg, b, _, rfl, .inl hb2, fun q hq0 => kR q _ (Same.new hq0) hq0 upd_same⟩
    · intro q bs H2 s2 hq0 lb nd2 fr hq ob
      exact k q bs H2 s2 hq0 fr ⟨hq, lb, nd2, ob⟩
end
end KT
set_option Elab.async false
set_option linter.all false
set_option maxRecDepth 100000
set_option maxHeartbeats 4000000
set_option pp.maxSteps 900
namespace DKq
open PySem PySem.Spec PyProof.Rows L2
theorem hitsP_any {P : Program} {w : World} {A : Around} {s : Shared} {ls : List (Key × V)} {vb : List (Key × Value)} (rb : KV ls vb) (R : Key × V → Bool) {ks : List (Key × V)} {va : List (Key × Value)} (ra : KV ks va) :
    (∀ p ∈ ks, (valV ls p.1 = none ∧ R p = false) ∨ ∃ u, valV ls p.1 = some u ∧ ∀ v y, RelV p.2 v → RelV u y → SeqAt.EqP P w A s v y (R p)) → PySem.W.KeqHitsP P w A s vb va (ks.all R) := by
  unfold KV at ra
  induction ra with
  | nil => intro _; exact .nil
  | @cons p q ps qs h t ih =>
    intro hp
    obtain ⟨h1, h2⟩ := h
    obtain ⟨k, v⟩ := q
    have h1 : p.1 = k := h1
    have rr : RelO (valV ls p.1) (valueAt vb p.1) := rb.val p.1
    rw [List.all_cons]
    rcases hp p List.mem_cons_self with ⟨e, er⟩ | ⟨u, e, eq⟩
    · rw [e] at rr
      rw [er, Bool.false_and]
      cases e2 : valueAt vb p.1 with
      | none =>
        rw [h1] at e2
        exact .miss e2
      | some y => rw [e2] at rr; exact rr.elim
    · rw [e] at rr
      cases e2 : valueAt vb p.1 with
      | none => rw [e2] at rr; exact rr.elim
      | some y =>
        rw [e2] at rr
        rw [h1] at e2
        exact .hit e2 (eq _ _ h2 rr) (ih fun p' hm => hp p' (List.mem_cons_of_mem _ hm))
section
variable {X : Cx} {pins : List (Addr × Obj)} {σ : L2.St} {H : Hp} {s : Shared}
theorem flat_eqP (I : Inv X pins σ H s) {A : Around} (hu : A.units < cLine) {c d : Addr} {ks ls : List (Key × V)} (ec : H c = some (.dK ks)) (ed : H d = some (.dK ls)) (fk : FlV ks) (fl : FlV ls) {r : Bool} (h1 : c = d → r = true) (h2 : c ≠ d → r = sameK ks ls) : SeqAt.EqP X.prog X.w A s (.ref c) (.ref d) r := by
  by_cases e : c = d
  · rw [h1 e, e]
    exact (SeqAt.EqAt.same _).eqP
  · rw [h2 e]
    refine SeqAt.eqP_refs e fun E Q q => ?_
    obtain ⟨_, ya, va, ra, da⟩ := (show ObjOk X.prog X.w H s.heap c (.dK ks) from I.hok c _ ec)
    obtain ⟨_, yb, vb, rb, db⟩ := (show ObjOk X.prog X.w H s.heap d (.dK ls) from I.hok d _ ed)
    refine PySem.W.rcP_dicts (knd := mixKind X.prog X.w) (r := ks.all (hitK ls)) ya yb da db hu (fun _ => hitsP_any rb (hitK ls) ra fun p hp => ?_) E Q ?_
    · cases z : valV ls p.1 with
      | none => exact .inl ⟨rfl, by unfold hitK; rw [z]⟩
      | some u =>
        refine .inr ⟨u, rfl, fun v y rv ry => ?_⟩
        have : hitK ls p = eqV p.2 u := by unfold hitK; rw [z]
        rw [this]
        exact (eqAt_V rv ry (fk p hp) (fl.val z)).eqP
    · unfold sameK at q
      rw [ra.length, rb.length] at q
      exact q
end
def rEqM : R2 := fun x y H Q => ∃ (a b : Addr) (ks ls : List (Key × V)) (R : Key × V → Bool), x = .ref a ∧ y = .ref b ∧ H a = some (.dK ks) ∧ H b = some (.dK ls) ∧
  (∀ p ∈ ks, (valV ls p.1 = none ∧ R p = false) ∨ ∃ (c d : Addr) (k1 k2 : List (Key × V)), p.2 = .ref c ∧ valV ls p.1 = some (.ref d) ∧ H c = some (.dK k1) ∧ H d = some (.dK k2) ∧ FlV k1 ∧ FlV k2 ∧ (c = d → R p = true) ∧ (c ≠ d → R p = sameK k1 k2)) ∧
  Q (.bl (ks.length == ls.length && ks.all R)) H
theorem op_eqM {X : Cx} (hu : X.A.units + 1 < cLine) : OpR X (compareOp .Eq) rEqM := by
  intro pins s σ H x y v u Q I rx ry h
  obtain ⟨a, b, ks, ls, R, rfl, rfl, ea, eb, h, q⟩ := h
  obtain rfl : v = Value.ref a := rx
  obtain rfl : u = Value.ref b := ry
  obtain ⟨_, ya, va, ra, da⟩ := (show ObjOk X.prog X.w H s.heap a (.dK ks) from I.hok a _ ea)
  obtain ⟨_, yb, vb, rb, db⟩ := (show ObjOk X.prog X.w H s.heap b (.dK ls) from I.hok b _ eb)
  refine PySem.W.rcP_dicts (knd := mixKind X.prog X.w) (r := ks.all R) ya yb da db (by omega) (fun _ => hitsP_any rb R ra fun p hp => ?_) _ _ (fin_bl I q ?_)
  · rcases h p hp with ⟨e1, e2⟩ | ⟨c, d, k1, k2, e1, e2, hc, hd, f1, f2, r1, r2⟩
    · exact .inl ⟨e1, e2⟩
    · refine .inr ⟨_, e2, fun v y rv ry => ?_⟩
      rw [e1] at rv
      obtain rfl : v = Value.ref c := rv
      obtain rfl : y = Value.ref d := ry
      exact flat_eqP I (A := X.A.in1) (by show X.A.units + 1 < cLine; omega) hc hd f1 f2 r1 r2
  · rw [ra.length, rb.length]
end DKq
set_option Elab.async false
set_option linter.all false
set_option maxRecDepth 100000
set_option maxHeartbeats 4000000
set_option pp.maxSteps 900
namespace KT
open PySem L2 PyProof.Rows DTp TxS DKq
theorem cws_len (n : Nat) (h : n ≤ 700) : (cws n).length = n := by
  have e : (cw1 ++ nextL cw1).length = 702 := by rw [List.length_append, nextL_len, cw1_len]
  unfold cws
  rw [List.length_take, e]; omega
theorem cws_nd64 : (cws 64).Nodup := by decide +kernel
theorem cws_wd64 : ∀ x ∈ cws 64, Wd x := by unfold Wd; decide +kernel
theorem cws_take {n m : Nat} (h : n ≤ m) : cws n = (cws m).take n := by
  unfold cws
  rw [List.take_take, Nat.min_eq_left h]
theorem cws_nd {n : Nat} (h : n ≤ 64) : (cws n).Nodup := by
  rw [cws_take h]
  exact List.Pairwise.sublist (List.take_sublist _ _) cws_nd64
theorem cws_wd {n : Nat} (h : n ≤ 64) : ∀ x ∈ cws n, Wd x := by
  rw [cws_take h]
  exact fun x hx => cws_wd64 x (List.mem_of_mem_take hx)
/-- the state at a place -/
def stW (i : Nat) : Str := ((cws 64)[i]?).getD ⟨#[]⟩
theorem stW_get {n i : Nat} (h : n ≤ 64) (hi : i < n) : (cws n)[i]? = some (stW i) := by
  rw [cws_take h, List.getElem?_take, if_pos hi]
  unfold stW
  rw [List.getElem?_eq_getElem (by rw [cws_len 64 (by decide)]; omega)]
  rfl
theorem idx_at {L : List Str} (nd : L.Nodup) {i : Nat} {s : Str} (h : L[i]? = some s) : L.idxOf s = i := by
  obtain ⟨hi, e⟩ := List.getElem?_eq_some_iff.mp h
  subst e
  exact nd.idxOf_getElem i hi
theorem putK_dkv {dl : List (Str × Str)} {x y : Str} (h : x ∈ keysD dl) : putK (dkv dl) (Sum.inr x) (.str y) = dkv (dl.map fun p => if p.1 = x then (p.1, y) else p) := by
  unfold putK
  have e : ((dkv dl).any fun kv => decide (kv.1 = Sum.inr x)) = true := by
    obtain ⟨p, hp, rfl⟩ := List.mem_map.mp h
    exact List.any_eq_true.mpr ⟨(Sum.inr p.1, V.str p.2), List.mem_map.mpr ⟨p, hp, rfl⟩, decide_eq_true rfl⟩
  rw [if_pos e]
  unfold dkv
  rw [List.map_map, List.map_map]
  refine List.map_congr_left fun p _ => ?_
  show (if (Sum.inr p.1 : Key) = Sum.inr x then ((Sum.inr p.1 : Key), V.str y) else (Sum.inr p.1, V.str p.2)) = (Sum.inr (if p.1 = x then (p.1, y) else p).1, V.str (if p.1 = x then (p.1, y) else p).2)
  by_cases z : p.1 = x
  · rw [if_pos (congrArg Sum.inr z), if_pos z]
  · rw [if_neg (fun e => z (Sum.inr.inj e)), if_neg z]
structure GMk (P : Program) (w : World) (K : PySem.W.Frag) (mg : Str → Option Value) (base : Heap) (G : Addr) : Prop where
  ex : ∃ (f : Addr) (fd : FuncData), Mk K G f ∧ FnOk P w K mg base CX0 4 f fd ["self", "moves"] (spGInit G) ∧ Binds K fd ["self", "moves"] []
section
variable {X : Cx} {j : Nat} {p pos : Pos} {e : Expr} {es : List Expr} {t : TA} {G : Addr}
theorem pe_store (M : GMk X.prog X.w X.K X.mg X.base G) (hm : X.mg "Store" = some (.ref G)) (hr : Room j X.A) (hg : Gl X "Store") (ha : PA X (e :: es) t) (hkj : 5 ≤ j := by decide)
    (he : starEach (e :: es) X.env = (false, eval e X.env) :: starEach es X.env := by rfl) (hpl : (backTo pos (starEach es X.env)).any (·.1) = false := by rfl) :
    PE X (.Call (.Name "Store" p) (e :: es) [] pos) (tMake G (spGInit G) [] E0 t) := by
  obtain ⟨f, fd, h1, h2, h3⟩ := M.ex
  exact pe_make h1 h2 (hr.mono hkj) hg hm h3 .nil pass0 ha (by decide) he hpl
end
end KT
set_option Elab.async false
set_option linter.all false
set_option maxRecDepth 100000
set_option maxHeartbeats 4000000
set_option pp.maxSteps 900
namespace KT
open PySem L2 PyProof.Rows DTp TxS DKq
/-- the inner dicts of moves -/
structure MvIn (H : Hp) (sts : List Str) (as : List Addr) (row : Str → List (Str × Str)) : Prop where
  len : as.length = sts.length
  inn : ∀ (i : Nat) (s : Str) (b : Addr), sts[i]? = some s → as[i]? = some b → H b = some (.dK (dkv (row s)))
abbrev mvK (sts : List Str) (as : List Addr) : List (Key × V) := (sts.zip as).map fun p => ((Sum.inr p.1 : Key), V.ref p.2)
theorem MvIn.mono {H H' : Hp} {sts : List Str} {as : List Addr} {row : Str → List (Str × Str)} (m : MvIn H sts as row) (s : L2.Same H H') : MvIn H' sts as row := ⟨m.len, fun i x b h1 h2 => s _ _ (m.inn i x b h1 h2)⟩
theorem mvK_keys {sts : List Str} {as : List Addr} (l : as.length = sts.length) : (mvK sts as).map (·.1) = sts.map Sum.inr := by
  rw [List.map_map]
  have e : (sts.zip as).map Prod.fst = sts := List.map_fst_zip (Nat.le_of_eq l.symm)
  conv => rhs; rw [← e, List.map_map]
  rfl
theorem mvK_get {H : Hp} {sts : List Str} {as : List Addr} {row : Str → List (Str × Str)} (m : MvIn H sts as row) (nd : sts.Nodup) {s : Str} (hs : s ∈ sts) : ∃ b, valV (mvK sts as) (Sum.inr s) = some (.ref b) ∧ H b = some (.dK (dkv (row s))) ∧ b ∈ as := by
  obtain ⟨i, hi⟩ := List.mem_iff_getElem?.mp hs
  have hlt := (List.getElem?_eq_some_iff.mp hi).1
  obtain ⟨b, hb⟩ : ∃ b, as[i]? = some b := ⟨_, List.getElem?_eq_getElem (by rw [m.len]; exact hlt)⟩
  exact ⟨b, valV_mem (by rw [mvK_keys m.len]; exact inr_nodup nd) (List.mem_map.mpr ⟨(s, b), List.mem_of_getElem? (List.getElem?_zip_eq_some.mpr ⟨hi, hb⟩), rfl⟩), m.inn i s b hi hb, List.mem_of_getElem? hb⟩
theorem MvAt.get {H : Hp} {a : Addr} {sts : List Str} {as : List Addr} {row : Str → List (Str × Str)} {i : Nat} {kk : Key} {v : V} (h : ((sts.zip as).map fun p => ((Sum.inr p.1 : Key), V.ref p.2))[i]? = some (kk, v)) : ∃ s b, sts[i]? = some s ∧ as[i]? = some b ∧ kk = Sum.inr s ∧ v = .ref b := by
  rw [List.getElem?_map] at h
  cases e : (sts.zip as)[i]? with
  | none => rw [e] at h; cases h
  | some p =>
    rw [e] at h
    have h := Option.some.inj h
    obtain ⟨h1, h2⟩ := List.getElem?_zip_eq_some.mp e
    exact ⟨p.1, p.2, h1, h2, (congrArg Prod.fst h).symm, (congrArg Prod.snd h).symm⟩
theorem MvAt.len2 {H : Hp} {a : Addr} {sts : List Str} {as : List Addr} {row : Str → List (Str × Str)} (m : MvAt H a sts as row) : ((sts.zip as).map fun p => ((Sum.inr p.1 : Key), V.ref p.2)).length = sts.length := by
  rw [List.length_map, List.length_zip, m.len, Nat.min_self]
theorem MvAt.val {H : Hp} {a : Addr} {sts : List Str} {as : List Addr} {row : Str → List (Str × Str)} (m : MvAt H a sts as row) (nd : sts.Nodup) {i : Nat} {s : Str} {b : Addr} (hs : sts[i]? = some s) (hb : as[i]? = some b) : valV ((sts.zip as).map fun p => ((Sum.inr p.1 : Key), V.ref p.2)) (Sum.inr s) = some (.ref b) :=
  valV_mem (by rw [m.keys]; exact inr_nodup nd) (List.mem_map.mpr ⟨(s, b), List.mem_of_getElem? (List.getElem?_zip_eq_some.mpr ⟨hs, hb⟩), rfl⟩)
theorem MvAt.at_ {H : Hp} {a : Addr} {sts : List Str} {as : List Addr} {row : Str → List (Str × Str)} (m : MvAt H a sts as row) {i : Nat} {s : Str} (hs : sts[i]? = some s) : ∃ b, as[i]? = some b := ⟨_, List.getElem?_eq_getElem (by rw [m.len]; exact (List.getElem?_eq_some_iff.mp hs).1)⟩
end KT
set_option Elab.async false
set_option linter.all false
set_option maxRecDepth 100000
set_option maxHeartbeats 4000000
set_option pp.maxSteps 900
namespace KT
open PySem L2 PyProof.Rows DTp TxS DKq
section
variable {P : Program} {w : World} {K : PySem.W.Frag} {mg : Str → Option Value} {base : Heap} {C S : Addr}
/-- the states and deeds fit -/
structure MvFit (sts : List Str) (row : Str → List (Str × Str)) (ds : List Str) : Prop where
  nd : sts.Nodup
  ks : ∀ s ∈ sts, keysD (row s) = ds
  ndd : ds.Nodup
  vs : ∀ s ∈ sts, ∀ p ∈ row s, p.2 ∈ sts
def ledS (row : Str → List (Str × Str)) : Str → List Str → Str
  | s, [] => s
  | s, o :: L => ledS row (kof (row s) o) L
theorem MvFit.kof {sts : List Str} {row : Str → List (Str × Str)} {ds : List Str} (h : MvFit sts row ds) {s o : Str} (hs : s ∈ sts) (ho : o ∈ ds) : kof (row s) o ∈ sts :=
  h.vs s hs _ (kof_pair (by rw [h.ks s hs]; exact h.ndd) (by rw [h.ks s hs]; exact ho))
theorem MvFit.led {sts : List Str} {row : Str → List (Str × Str)} {ds : List Str} (h : MvFit sts row ds) : ∀ {L : List Str} {s : Str}, s ∈ sts → (∀ o ∈ L, o ∈ ds) → ledS row s L ∈ sts
  | [], _, hs, _ => hs
  | o :: L, s, hs, hL => show ledS row (KT.kof (row s) o) L ∈ sts from MvFit.led h (h.kof hs (hL o List.mem_cons_self)) fun x hx => hL x (List.mem_cons_of_mem _ hx)
end
end KT
set_option Elab.async false
set_option linter.all false
set_option maxRecDepth 100000
set_option maxHeartbeats 4000000
set_option pp.maxSteps 900
namespace KT
open PySem L2 PyProof.Rows DTp TxS DKq
def adrS (S : List Str) (bs : List Addr) (s : Str) : Addr := (bs[S.idxOf s]?).getD 0
theorem adrS_at {S : List Str} {bs : List Addr} (nd : S.Nodup) {i : Nat} {s : Str} {b : Addr} (hs : S[i]? = some s) (hb : bs[i]? = some b) : adrS S bs s = b := by
  unfold adrS
  rw [idx_at nd hs, hb]
  rfl
theorem MvIn.sorted {H : Hp} {S : List Str} {bs : List Addr} {row : Str → List (Str × Str)} (m : MvIn H S bs row) (nd : S.Nodup) : MvIn H (ascOf S) ((ascOf S).map (adrS S bs)) row where
  len := List.length_map _
  inn := fun i s b h1 h2 => by
    rw [List.getElem?_map, h1] at h2
    obtain rfl : adrS S bs s = b := Option.some.inj h2
    obtain ⟨j, hj⟩ := List.mem_iff_getElem?.mp ((ascOf_perm S).mem_iff.mp (List.mem_of_getElem? h1))
    obtain ⟨c, hc⟩ : ∃ c, bs[j]? = some c := ⟨_, List.getElem?_eq_getElem (by rw [m.len]; exact (List.getElem?_eq_some_iff.mp hj).1)⟩
    rw [adrS_at nd hj hc]
    exact m.inn j s c hj hc
end KT
set_option Elab.async false
set_option linter.all false
set_option maxRecDepth 100000
set_option maxHeartbeats 4000000
set_option Elab.async false
set_option linter.all false
set_option maxRecDepth 100000
set_option maxHeartbeats 4000000
set_option pp.maxSteps 900
namespace KT
open PySem L2 PyProof.Rows DTp TxS DKq
theorem cut_to' (xs : List V) (j : Nat) : cutV xs none (some (j : Int)) = xs.take j := by
  by_cases h : j ≤ xs.length
  · exact cut_to xs j h
  · unfold cutV
    have e1 : HT.sIx xs.length 0 none = 0 := rfl
    have e2 : HT.sIx xs.length xs.length (some (j : Int)) = xs.length := by
      rw [HT.sIx_nat]; omega
    rw [e1, e2, List.drop_zero, Nat.sub_zero, List.take_length, List.take_of_length_le (by omega)]
theorem gflds_no (m : Addr) {x : Str} (h : ¬ x = "_moves") : (gflds m).lookup x = none := by
  show (match x == ("_moves" : Str) with | true => some (V.ref m) | false => none) = none
  rw [beq_eq_false_iff_ne.mpr h]
theorem MvOk.sorted {S : List Str} {row : Str → List (Str × Str)} {ds : List Str} (h : MvOk S row ds) : MvOk (ascOf S) row ds where
  ne := fun e => h.ne (by have := ascOf_perm S; rw [e] at this; exact this.symm.eq_nil)
  few := by rw [(ascOf_perm S).length_eq]; exact h.few
  wd := fun s hs => h.wd s ((ascOf_perm S).mem_iff.mp hs)
  nd := (ascOf_perm S).nodup_iff.mpr h.nd
  ks := fun s hs => h.ks s ((ascOf_perm S).mem_iff.mp hs)
  dne := h.dne
  dfew := h.dfew
  dwd := h.dwd
  asc := h.asc
  vs := fun s hs p hp => (ascOf_perm S).mem_iff.mpr (h.vs s ((ascOf_perm S).mem_iff.mp hs) p hp)
theorem MvAt.inns {H : Hp} {a : Addr} {sts : List Str} {as : List Addr} {row : Str → List (Str × Str)} (m : MvAt H a sts as row) : MvIn H sts as row := ⟨m.len, m.inn⟩
/-- the inner dicts while the outer one is locked -/
theorem MvAt.lock {H : Hp} {a : Addr} {sts : List Str} {as : List Addr} {row : Str → List (Str × Str)} {o : HO} (m : MvAt H a sts as row) : MvIn (upd H a o) sts as row := ⟨m.len, fun i s b h1 h2 => by
  rw [upd_ne (fun e => (List.nodup_cons.mp m.nda).1 (by rw [← e]; exact List.mem_of_getElem? h2))]
  exact m.inn i s b h1 h2⟩
theorem MvOk.rok {S : List Str} {row : Str → List (Str × Str)} {ds : List Str} (h : MvOk S row ds) : ∀ s ∈ S, (keysD (row s)).Nodup ∧ (row s).length ≤ 100 := fun s hs => by
  have e := h.ks s hs
  refine ⟨e.nodup_iff.mpr h.asc.nodup, ?_⟩
  rw [← keysD_len, e.length_eq]
  have := h.dfew
  omega
theorem MvAt.purse {H H' : Hp} {a p : Addr} {B : Int} {sts : List Str} {as : List Addr} {row : Str → List (Str × Str)} (m : MvAt H a sts as row) (hP : PurseAt H p B) (bt : But p H H') : MvAt H' a sts as row := by
  obtain ⟨a1, b1, c1, d1, e, _⟩ := hP
  have n1 : a ≠ p := ne_of m.at' e (by intro z; cases z)
  refine ⟨bt _ _ n1 m.at', m.len, m.nda, fun i s b h1 h2 => bt _ _ ?_ (m.inn i s b h1 h2)⟩
  exact ne_of (m.inn i s b h1 h2) e (by intro z; cases z)
end KT
set_option Elab.async false
set_option linter.all false
set_option maxRecDepth 100000
set_option maxHeartbeats 4000000
set_option pp.maxSteps 900
namespace KT
open PySem L2 PyProof.Rows DTp TxS DKq
def rowT (ds : List Str) (t : Str → Str → Str) (s : Str) : List (Str × Str) := ds.map fun o => (o, t s o)
theorem rowT_keys (ds : List Str) (t : Str → Str → Str) (s : Str) : keysD (rowT ds t s) = ds := by
  unfold keysD rowT
  rw [List.map_map]
  exact List.map_id _
theorem kof_rowT {ds : List Str} (nd : ds.Nodup) (t : Str → Str → Str) (s : Str) {o : Str} (ho : o ∈ ds) : kof (rowT ds t s) o = t s o :=
  kof_mem (p := (o, t s o)) (by rw [rowT_keys]; exact nd) (List.mem_map.mpr ⟨o, ho, rfl⟩)
structure MV (sts ds : List Str) (t : Str → Str → Str) : Prop where
  asc : Asc sts
  ne : sts ≠ []
  few : sts.length < 64
  wd : ∀ s ∈ sts, Wd s
  dsc : Asc ds
  dne : ds ≠ []
  dfew : ds.length ≤ 60
  dwd : ∀ o ∈ ds, Wd o
  cl : ∀ s ∈ sts, ∀ o ∈ ds, t s o ∈ sts
section
variable {sts ds : List Str} {t : Str → Str → Str}
theorem MV.ok (m : MV sts ds t) : MvOk sts (rowT ds t) ds where
  ne := m.ne
  few := by have := m.few; omega
  wd := m.wd
  nd := m.asc.nodup
  ks := fun s _ => by rw [rowT_keys]
  dne := m.dne
  dfew := m.dfew
  dwd := m.dwd
  asc := m.dsc
  vs := fun s hs p hp => by
    obtain ⟨o, ho, rfl⟩ := List.mem_map.mp hp
    exact m.cl s hs o ho
/-- moves in the heap, states and deeds in some order -/
def MvT (H : Hp) (a : Addr) (sts ds : List Str) (t : Str → Str → Str) : Prop := ∃ (ss : List Str) (as : List Addr) (row : Str → List (Str × Str)), MvAt H a ss as row ∧ ss.Perm sts ∧ ∀ s ∈ sts, (keysD (row s)).Perm ds ∧ ∀ o ∈ ds, kof (row s) o = t s o
theorem MvT.mono {H H' : Hp} {a : Addr} (h : MvT H a sts ds t) (s : L2.Same H H') : MvT H' a sts ds t := let ⟨ss, as, row, m, p, k⟩ := h; ⟨ss, as, row, m.mono s, p, k⟩
theorem MvAt.toT (m : MV sts ds t) {H : Hp} {a : Addr} {as : List Addr} (h : MvAt H a sts as (rowT ds t)) : MvT H a sts ds t := ⟨sts, as, _, h, List.Perm.refl _, fun s _ => ⟨by rw [rowT_keys], fun o ho => kof_rowT m.dsc.nodup t s ho⟩⟩
theorem MV.okP (m : MV sts ds t) {ss : List Str} {row : Str → List (Str × Str)} (p : ss.Perm sts) (k : ∀ s ∈ sts, (keysD (row s)).Perm ds ∧ ∀ o ∈ ds, kof (row s) o = t s o) : MvOk ss row ds where
  ne := fun e => m.ne (by rw [e] at p; exact p.symm.eq_nil)
  few := by rw [p.length_eq]; have := m.few; omega
  wd := fun s hs => m.wd s (p.mem_iff.mp hs)
  nd := p.nodup_iff.mpr m.asc.nodup
  ks := fun s hs => (k s (p.mem_iff.mp hs)).1
  dne := m.dne
  dfew := m.dfew
  dwd := m.dwd
  asc := m.dsc
  vs := fun s hs q hq => by
    obtain ⟨k1, k2⟩ := k s (p.mem_iff.mp hs)
    have nk : (keysD (row s)).Nodup := k1.nodup_iff.mpr m.dsc.nodup
    have mk : q.1 ∈ keysD (row s) := List.mem_map.mpr ⟨q, hq, rfl⟩
    have ho := k1.mem_iff.mp mk
    rw [← kof_mem nk hq, k2 _ ho]
    exact p.mem_iff.mpr (m.cl s (p.mem_iff.mp hs) _ ho)
theorem rowD_T {ds : List Str} {row : Str → List (Str × Str)} {t : Str → Str → Str} {s : Str} (k : ∀ o ∈ ds, kof (row s) o = t s o) : rowD ds row s = rowT ds t s := List.map_congr_left fun o ho => by rw [k o ho]
/-- the Store at p -/
structure GoAt (G : Addr) (H : Hp) (p dx m : Addr) (sts : List Str) (bs : List Addr) (ds : List Str) (t : Str → Str → Str) : Prop where
  st : StoAt G H p dx m sts bs (rowT ds t)
  mv : MV sts ds t
theorem GoAt.mono {G : Addr} {H H' : Hp} {p dx m : Addr} {bs : List Addr} (h : GoAt G H p dx m sts bs ds t) (s : L2.Same H H') : GoAt G H' p dx m sts bs ds t := ⟨⟨s _ _ h.st.ob, h.st.mv.mono s⟩, h.mv⟩
def GoE (G : Addr) (H : Hp) (p : Addr) (sts ds : List Str) (t : Str → Str → Str) : Prop := ∃ dx m bs, GoAt G H p dx m sts bs ds t
theorem GoE.mono {G : Addr} {H H' : Hp} {p : Addr} (h : GoE G H p sts ds t) (s : L2.Same H H') : GoE G H' p sts ds t := let ⟨dx, m, bs, g⟩ := h; ⟨dx, m, bs, g.mono s⟩
end
/-- a store's init of moves in any order -/
theorem mk_storeF {G : Addr} {H : Hp} {Q : VK} {a : Addr} {sts ds : List Str} {t : Str → Str → Str} (h : MvT H a sts ds t) (mv : MV sts ds t)
    (k : ∀ x dx m bs H', GoAt G H' x dx m sts bs ds t → H x = none → H m = none → (∀ b ∈ bs, H b = none) → L2.Same H H' → Q (.ref x) H') : ∀ x dx, H x = none → H dx = none → dx ≠ x → spGInit G (.ref x :: ([.ref a] ++ [])) (upd (upd H dx (.own x)) x (.ins G dx [])) (fun v H2 => v = .non ∧ Q (.ref x) H2) E0 := by
  intro x dx hx hdx ne
  obtain ⟨ss, as, row, m, p, kk⟩ := h
  have s2 : L2.Same H (upd (upd H dx (.own x)) x (.ins G dx [])) := fun b o e => (upd_ne (ne_of_none e hx)).trans ((upd_ne (ne_of_none e hdx)).trans e)
  refine ⟨x, dx, a, ss, as, row, ds, rfl, upd_same, m.mono s2, mv.okP p kk, by rw [p.length_eq]; exact mv.few, fun H' mm bs st hm0 hb0 keep => ⟨rfl, k x dx mm bs H' ⟨?_, mv⟩ hx (s2.free hm0) (fun b hb => s2.free (hb0 b hb)) fun b o e => keep b o (s2 b o e) (ne_of_none e hx)⟩⟩
  have e : ascOf ss = sts := (ascOf_asc (p.nodup_iff.mpr mv.asc.nodup)).eq mv.asc ((ascOf_perm ss).trans p)
  rw [e] at st
  refine ⟨st.ob, st.mv.at', st.mv.len, st.mv.nda, fun i s b h1 h2 => ?_⟩
  rw [← rowD_T (kk s (List.mem_of_getElem? h1)).2]
  exact st.mv.inn i s b h1 h2
theorem mk_storeT {G : Addr} {H : Hp} {Q : VK} {a : Addr} {sts ds : List Str} {t : Str → Str → Str} (h : MvT H a sts ds t) (mv : MV sts ds t)
    (k : ∀ x H', GoE G H' x sts ds t → H x = none → L2.Same H H' → Q (.ref x) H') : ∀ x dx, H x = none → H dx = none → dx ≠ x → spGInit G (.ref x :: ([.ref a] ++ [])) (upd (upd H dx (.own x)) x (.ins G dx [])) (fun v H2 => v = .non ∧ Q (.ref x) H2) E0 :=
  mk_storeF h mv fun x dx m bs H' g hx _ _ s => k x H' ⟨dx, m, bs, g⟩ hx s
structure GTy (K : PySem.W.Frag) (mg : Str → Option Value) (G : Addr) : Prop extends GTx K mg G where
  ha : PySem.W.findIn K (.ref G) "__class__" = some (some (.builtin "object.__class__"))
  hn : PySem.W.specialIn K (.builtin "object.__class__") "__get__" = some (some (.builtin "getset_descriptor.__get__"))
  htk : PySem.W.takesIn K (.builtin "object.__class__") = some true
  hm : PySem.W.mroIn K G (.type "object") = some true
  own : PySem.W.kitOne K (.ref G) (.ref G) = some true
theorem GTy.ty {K : PySem.W.Frag} {mg : Str → Option Value} {C p dx : Addr} {fs : List (Str × V)} {H : Hp} (T : GTy K mg C) (h : H p = some (.ins C dx fs)) : TyX K H (.ref p) (.ref C) := .base (.ins h T.cl T.ha T.hn T.htk T.hm)
section
variable {P : Program} {w : World} {K : PySem.W.Frag} {mg : Str → Option Value} {base : Heap} {G : Addr}
def spGMovesT (G : Addr) : Sp := fun vs H Q _ => ∃ (p : Addr) (sts ds : List Str) (t : Str → Str → Str), vs = [.ref p] ∧ GoE G H p sts ds t ∧ ∀ q bs H', L2.Same H H' → H q = none → (∀ b ∈ bs, H b = none) → MvAt H' q sts bs (rowT ds t) → Q (.ref q) H'
theorem gmoves_T {vs : List V} {H : Hp} {Q : VK} {E : XK} (h : spGMovesT G vs H Q E) : spGMoves G vs H Q E := by
  obtain ⟨p, sts, ds, t, rfl, ⟨dx, m, bs, g⟩, k⟩ := h
  exact ⟨p, dx, m, sts, bs, _, ds, rfl, g.st, g.mv.ok, k⟩
def spGStates (G : Addr) : Sp := fun vs H Q _ => ∃ (p : Addr) (sts ds : List Str) (t : Str → Str → Str), vs = [.ref p] ∧ GoE G H p sts ds t ∧ ∀ q H', L2.Same H H' → H q = none → H' q = some (.lst (sts.map V.str)) → Q (.ref q) H'
theorem scGStates : FnScope ["self"] ["self"] (defScope gStates) := ⟨rfl, rfl, rfl, by decide +kernel, rfl, by decide +kernel, by decide +kernel⟩
theorem mvK_strs {H : Hp} {a : Addr} {sts : List Str} {as : List Addr} {row : Str → List (Str × Str)} (m : MvAt H a sts as row) : (((sts.zip as).map fun p => ((Sum.inr p.1 : Key), V.ref p.2)).map fun kv => kV kv.1) = sts.map V.str := by
  have ek := m.keys
  generalize ((sts.zip as).map fun p => ((Sum.inr p.1 : Key), V.ref p.2)) = kvs at ek
  have e := congrArg (List.map kV) ek
  rw [List.map_map, List.map_map] at e
  exact e
theorem ok_gstates {g : Addr} {fd : FuncData} (F : Fun K "states" "Store.states" gStates g fd) (T : GTx K mg G) (Z : Blp mg) : FnOk P w K mg base CX0 1 g fd ["self"] (spGStates G) := by
  refine F.ok scGStates (fun vs H Q E h => ?_) (fun cdv A outer s H vs Q E hr h => ?_)
  · obtain ⟨p, sts, ds, t, rfl, _⟩ := h
    rfl
  · obtain ⟨p, sts, ds, t, rfl, ⟨dx, m, bs, g⟩, k⟩ := h
    refine ⟨_, pss_one (ps_ret (pe_callTy (call_listD rfl) (by rfl) Z.list (by decide +kernel) (pa_cons (pe_fld (pv 0) rfl) pa_nil))), ?_⟩
    refine ⟨_, rfl, p, G, dx, _, _, rfl, g.st.ob, T.cl, T.nM, rfl, m, _, rfl, .inl g.st.mv.at', fun q hq0 => ?_⟩
    rw [mvK_strs g.st.mv]
    exact k q _ (Same.new hq0) hq0 upd_same
def spGDeeds (G : Addr) : Sp := fun vs H Q _ => ∃ (p : Addr) (sts ds : List Str) (t : Str → Str → Str), vs = [.ref p] ∧ GoE G H p sts ds t ∧ ∀ q H', L2.Same H H' → H q = none → H' q = some (.lst (ds.map V.str)) → Q (.ref q) H'
theorem scGDeeds : FnScope ["self"] ["self"] (defScope gDeeds) := ⟨rfl, rfl, rfl, by decide +kernel, rfl, by decide +kernel, by decide +kernel⟩
theorem ok_gdeeds {g : Addr} {fd : FuncData} (F : Fun K "deeds" "Store.deeds" gDeeds g fd) (T : GTx K mg G) (Z : Blp mg) (M : Mee P w K mg base G 1 "states" ["self"] (spGStates G)) : FnOk P w K mg base CX0 2 g fd ["self"] (spGDeeds G) := by
  refine F.ok scGDeeds (fun vs H Q E h => ?_) (fun cdv A outer s H vs Q E hr h => ?_)
  · obtain ⟨p, sts, ds, t, rfl, _⟩ := h
    rfl
  · obtain ⟨p, sts, ds, t, rfl, ⟨dx, m, bs, g⟩, k⟩ := h
    refine ⟨_, pss_one (ps_ret (pe_callTy (call_listD rfl) (by rfl) Z.list (by decide +kernel) (pa_cons (pe_dget (hu_of hr) (pe_fld (pv 0) rfl) (pe_ix ix_list (pe_m0 M T.cl hr (pv 0)) pe_int (fun _ _ => rfl)) (fun _ _ => rfl)) pa_nil))), ?_⟩
    obtain ⟨s0, e0⟩ : ∃ s0, sts[0]? = some s0 := ⟨_, List.getElem?_eq_getElem (List.length_pos_iff.mpr g.mv.ne)⟩
    refine ⟨_, rfl, p, G, dx, _, _, rfl, g.st.ob, T.cl, T.nM, rfl, ?_⟩
    refine ⟨_, rfl, p, dx, _, rfl, g.st.ob, gflds_no _ (by decide +kernel), p, sts, ds, t, rfl, ⟨dx, m, bs, g⟩, fun l H1 s1 hl0 hl => ?_⟩
    refine ⟨l, _, 0, _, rfl, rfl, SqL.of hl, atI_nat (j := 0) (by rw [List.getElem?_map, e0]; rfl), ?_⟩
    have g1 := g.mono s1
    obtain ⟨b, hb⟩ : ∃ b, bs[0]? = some b := ⟨_, List.getElem?_eq_getElem (by rw [g.st.mv.len]; exact List.length_pos_iff.mpr g.mv.ne)⟩
    have dg := DGet.k (k := Sum.inr s0) g1.st.mv.at'
    rw [valV_mem (by rw [g.st.mv.keys]; exact inr_nodup g.mv.asc.nodup) (List.mem_map.mpr ⟨(s0, b), List.mem_of_getElem? (List.getElem?_zip_eq_some.mpr ⟨e0, hb⟩), rfl⟩)] at dg
    refine ⟨m, _, rfl, dg, b, _, rfl, .inl (g1.st.mv.inn 0 s0 b e0 hb), fun q hq0 => ?_⟩
    have ek : (dkv (rowT ds t s0)).map (fun kv => kV kv.1) = ds.map V.str := by
      unfold dkv rowT
      rw [List.map_map, List.map_map]; rfl
    rw [ek]
    exact k q _ (s1.trans (Same.new hq0)) (s1.free hq0) upd_same
end
end KT
set_option Elab.async false
set_option linter.all false
set_option maxRecDepth 100000
set_option maxHeartbeats 4000000
set_option pp.maxSteps 900
namespace KT
open PySem L2 PyProof.Rows DTp TxS DKq
def sameG (sts ds : List Str) (t : Str → Str → Str) (sts2 ds2 : List Str) (t2 : Str → Str → Str) : Bool := sts.length == sts2.length && sts.all fun s => decide (s ∈ sts2) && sameK (dkv (rowT ds t s)) (dkv (rowT ds2 t2 s))
theorem fl_dkv2 (dl : List (Str × Str)) : FlV (dkv dl) := fun p hp => by
  obtain ⟨q, _, rfl⟩ := List.mem_map.mp hp
  rfl
theorem mvK_all (r : Str → Bool) (R : Key × V → Bool) (hR : ∀ s v, R (Sum.inr s, v) = r s) : ∀ {sts : List Str} {as : List Addr}, as.length = sts.length → (mvK sts as).all R = sts.all r
  | [], [], _ => rfl
  | [], _ :: _, h => by cases h
  | _ :: _, [], h => by cases h
  | s :: sts, a :: as, h => by
    show (R (Sum.inr s, V.ref a) && (mvK sts as).all R) = (r s && sts.all r)
    rw [hR, mvK_all r R hR (Nat.succ.inj h)]
section
variable {P : Program} {w : World} {K : PySem.W.Frag} {mg : Str → Option Value} {base : Heap} {G : Addr}
def spGEq (K : PySem.W.Frag) (G : Addr) : Sp := fun vs H Q _ => ∃ (p : Addr) (y : V) (sts ds : List Str) (t : Str → Str → Str), vs = [.ref p, y] ∧ GoE G H p sts ds t ∧
  ((∃ (q : Addr) (sts2 ds2 : List Str) (t2 : Str → Str → Str), y = .ref q ∧ GoE G H q sts2 ds2 t2 ∧ Q (.bl (sameG sts ds t sts2 ds2 t2)) H) ∨ ∃ ty, TyX K H y ty ∧ PySem.W.kitOne K ty (.ref G) = some false ∧ Q (.bl false) H)
theorem scGEq : FnScope ["self", "other"] ["self", "other"] (defScope gEq) := ⟨rfl, rfl, rfl, by decide +kernel, rfl, by decide +kernel, by decide +kernel⟩
theorem ok_geq {g : Addr} {fd : FuncData} (F : Fun K "__eq__" "Store.__eq__" gEq g fd) (T : GTy K mg G) (Z : Blp mg) : FnOk P w K mg base CX0 1 g fd ["self", "other"] (spGEq K G) := by
  refine F.ok scGEq (fun vs H Q E h => ?_) (fun cdv A outer s H vs Q E hr h => ?_)
  · obtain ⟨p, y, sts, ds, t, rfl, _⟩ := h
    rfl
  · obtain ⟨p, y, sts, ds, t, rfl, ⟨dx, m, bs, g1⟩, h⟩ := h
    refine ⟨_, pss_one (ps_ret (pe_and (pe_callB call_isi (by rfl) Z.isi boot_isi (pa_cons (pv 1) (pa_cons (pe_glob (v := .ref G) rfl T.mgG rfl) pa_nil)))
      (pe_one (pe_cmpR (op_eqM (hu_of hr)) (pe_fld (pv 0) rfl) (pe_fld (pv 1) rfl) (nomark _))))), ?_⟩
    rcases h with ⟨q, sts2, ds2, t2, rfl, ⟨dx2, m2, bs2, g2⟩, k⟩ | ⟨ty, hty, kt, k⟩
    · refine ⟨_, rfl, _, _, _, _, true, rfl, .own _, T.ty g2.st.ob, T.own, _, rfl, iteT ?_⟩
      refine ⟨_, rfl, p, G, dx, _, _, rfl, g1.st.ob, T.cl, T.nM, rfl, _, rfl, q, G, dx2, _, _, rfl, g2.st.ob, T.cl, T.nM, rfl, ?_⟩
      obtain ⟨r, er⟩ : ∃ r : Str → Bool, r = fun s => decide (s ∈ sts2) && sameK (dkv (rowT ds t s)) (dkv (rowT ds2 t2 s)) := ⟨_, rfl⟩
      refine ⟨m, m2, mvK sts bs, mvK sts2 bs2, fun kv => match kv.1 with
        | .inr s => r s
        | .inl _ => false, rfl, rfl, g1.st.mv.at', g2.st.mv.at', fun kv hkv => ?_, ?_⟩
      · obtain ⟨i, hi⟩ := List.mem_iff_getElem?.mp hkv
        obtain ⟨kk, v⟩ := kv
        obtain ⟨s, c, hs, hc, rfl, rfl⟩ := MvAt.get (row := rowT ds t) (H := H) (a := m) hi
        by_cases z : s ∈ sts2
        · obtain ⟨d, vd, hd, _⟩ := mvK_get g2.st.mv.inns g2.mv.asc.nodup z
          have hcv := g1.st.mv.inn i s c hs hc
          refine .inr ⟨c, d, _, _, rfl, vd, hcv, hd, fl_dkv2 _, fl_dkv2 _, fun e => ?_, fun _ => ?_⟩
          · rw [e, hd] at hcv
            have e2 := HO.dK.inj (Option.some.inj hcv)
            show r s = true
            rw [er]
            show (decide (s ∈ sts2) && sameK (dkv (rowT ds t s)) (dkv (rowT ds2 t2 s))) = true
            rw [e2, decide_eq_true z, sameK_self (by rw [rowT_keys]; exact g1.mv.dsc.nodup)]
            rfl
          · show r s = _
            rw [er]
            show (decide (s ∈ sts2) && sameK (dkv (rowT ds t s)) (dkv (rowT ds2 t2 s))) = _
            rw [decide_eq_true z, Bool.true_and]
        · refine .inl ⟨?_, ?_⟩
          · show valV (mvK sts2 bs2) (Sum.inr s) = none
            cases e : valV (mvK sts2 bs2) (Sum.inr s) with
            | none => rfl
            | some u =>
              have mk := valV_in e
              rw [mvK_keys g2.st.mv.len] at mk
              obtain ⟨x, hx, e2⟩ := List.mem_map.mp mk
              exact absurd (Sum.inr.inj e2 ▸ hx) z
          · show r s = false
            rw [er]
            show (decide (s ∈ sts2) && _) = false
            rw [decide_eq_false z, Bool.false_and]
      · rw [mvK_all r _ (fun _ _ => rfl) g1.st.mv.len, MvAt.len2 g1.st.mv, MvAt.len2 g2.st.mv]
        unfold sameG at k
        rw [← er] at k
        exact k
    · exact ⟨_, rfl, _, _, _, _, false, rfl, .own _, hty, kt, _, rfl, iteF k⟩
def spCheckStore (G : Addr) : Sp := fun vs H Q _ => ∃ (p : Addr) (sts ds : List Str) (t : Str → Str → Str), vs = [.ref p] ∧ GoE G H p sts ds t ∧ Q .non H
theorem scCkS : FnScope ["store"] ["store"] (defScope pCheckStore) := ⟨rfl, rfl, rfl, by decide +kernel, rfl, by decide +kernel, by decide +kernel⟩
theorem ok_checkStore {g : Addr} {fd : FuncData} (F : Fun K "check_store" "check_store" pCheckStore g fd) (T : GTy K mg G) (Z : Blp mg) : FnOk P w K mg base CX0 1 g fd ["store"] (spCheckStore G) := by
  refine F.ok scCkS (fun vs H Q E h => ?_) (fun cdv A outer s H vs Q E hr h => ?_)
  · obtain ⟨p, sts, ds, t, rfl, _⟩ := h
    rfl
  · obtain ⟨p, sts, ds, t, rfl, ⟨dx, m, bs, g1⟩, k⟩ := h
    refine ⟨_, pss_one (ps_if (pt_not (pt_val (pe_callB call_isi (by rfl) Z.isi boot_isi (pa_cons (pv 0) (pa_cons (pe_glob (v := .ref G) rfl T.mgG rfl) pa_nil))))) (pss_one ps_never) pss_nil), ?_⟩
    exact ⟨_, rfl, _, _, _, _, true, rfl, .own _, T.ty g1.st.ob, T.own, _, rfl, iteF k⟩
def spCheckLogS (G : Addr) : Sp := fun vs H Q _ => ∃ (p r : Addr) (sts ds : List Str) (t : Str → Str → Str) (L : List Str), vs = [.ref p, .ref r] ∧ GoE G H p sts ds t ∧ H r = some (.lst (L.map V.str)) ∧ L.length ≤ 1000 ∧ (∀ o ∈ L, o ∈ ds) ∧ ∀ H', L2.Same H H' → Q .non H'
abbrev nCkL : List Str := ["store", "log", "deeds", "deed"]
theorem scCkL : FnScope nCkL ["store", "log"] (defScope pCheckLogS) := ⟨rfl, rfl, rfl, by decide +kernel, rfl, by decide +kernel, by decide +kernel⟩
theorem ok_checkLogS {g : Addr} {fd : FuncData} (F : Fun K "check_log_of_store" "check_log_of_store" pCheckLogS g fd) (T : GTx K mg G) (Z : Blp mg) (M : Mee P w K mg base G 2 "deeds" ["self"] (spGDeeds G)) : FnOk P w K mg base CX0 3 g fd ["store", "log"] (spCheckLogS G) := by
  refine F.ok scCkL (fun vs H Q E h => ?_) (fun cdv A outer s H vs Q E hr h => ?_)
  · obtain ⟨p, r, sts, ds, t, L, rfl, _⟩ := h
    rfl
  · obtain ⟨p, r, sts, ds, t, L, rfl, g1, hr', few, hL, k⟩ := h
    have nd := scCkL.nd
    refine ⟨_, pss_cons (ps_set (i := 2) nd rfl (Or.inr rfl) (pe_m0 M T.cl hr (pv 0)))
      (pss_one (ps_if (pt_cut <| PW.pt (pw_or (pt_not (pt_val (pe_callB call_isi (by rfl) Z.isi boot_isi (pa_cons (pv 1) (pa_cons (pe_bltn (v := .ty "list") (by rfl) Z.list (by decide +kernel) rfl) pa_nil))))) (pw_or1 (pt_not (pt_val (pe_callB (cr_all rfl) (by rfl) Z.all (by decide +kernel) (pa_cons
          (pe_lc (own := [("deed", 3)]) (g := gName 3) (tt := tYes) (te := tOp (rIn K false) (tVar 3) (tVar 2)) rfl nd (pi_list (pv 1)) (blkOk_by (own := [("deed", 3)]) (N := nCkL) (sc := defScope pCheckLogS) (by decide +kernel))
            (fun _ _ _ _ _ => pg_name (i := 3) nd rfl (Or.inl rfl)) (fun _ _ _ _ _ => pts_nil) (fun _ _ _ _ _ => pe_cmpR op_in_seq (pv 3) (pv 2) (by rfl))) pa_nil))))))) (pss_one ps_never) pss_nil)), ?_⟩
    obtain ⟨dx, m, bs, g2⟩ := id g1
    refine ⟨_, rfl, p, dx, _, rfl, g2.st.ob, gflds_no _ (by decide +kernel), p, sts, ds, t, rfl, g1, fun dq H1 s1 hdq0 hdq => ?_⟩
    refine at_name (σ' := [some (.ref p), some (.ref r), some (.ref dq), none]) rfl ?_
    refine ⟨fun b H' => b = false ∧ L2.Same H H', ?_, ?_⟩
    · refine ⟨_, rfl, _, _, _, _, true, rfl, .ty _, .base (.lst (s1 _ _ hr')), kit_ty (by decide +kernel), _, rfl, iteF ?_⟩
      refine ⟨_, rfl, r, rfl, ⟨_, SqL.of (s1 _ _ hr')⟩, fun D hD => ?_⟩
      refine lc_true (walk_list (K := K) (a := r) (xs := L.map V.str)) (by rw [List.length_map]; exact few) hD (fun H' s => SqL.of (s _ _ (s1 _ _ hr'))) ?_ ?_
      · rintro i v H2 H2' R hi s2 ⟨rfl, hx⟩ kR
        obtain ⟨o, eo, rfl⟩ := str_get hx
        refine at_name (σ' := [some (.ref p), some (.ref r), some (.ref dq), some (.str o)]) rfl ⟨rfl, ?_⟩
        refine ⟨_, rfl, _, rfl, dq, _, rfl, .inl (SqL.of (s2 _ _ hdq)), rfl, flat_strs _, ?_⟩
        rw [inV_strs, decide_eq_true (hL o (List.mem_of_getElem? eo))]
        exact kR _ (fun _ _ e => e)
      · intro H2 s2 hD2
        refine ⟨D, _, rfl, SqL.of hD2, ?_⟩
        rw [all_true]
        exact ⟨_, rfl, rfl, s1.trans s2⟩
    · rintro b H2 ⟨rfl, s2⟩
      exact iteF (k _ s2)
theorem led_mem {sts ds : List Str} {t : Str → Str → Str} (m : MV sts ds t) : ∀ {L : List Str} {s : Str}, s ∈ sts → (∀ o ∈ L, o ∈ ds) → L.foldl t s ∈ sts
  | [], _, hs, _ => hs
  | o :: L, s, hs, hL => show L.foldl t (t s o) ∈ sts from led_mem m (m.cl s hs o (hL o List.mem_cons_self)) fun x hx => hL x (List.mem_cons_of_mem _ hx)
def spLedT : Sp := fun vs H Q _ => ∃ (a : Addr) (ss : List Str) (as : List Addr) (row : Str → List (Str × Str)) (sts ds : List Str) (t : Str → Str → Str) (s : Str) (r : Addr) (L : List Str), vs = [.ref a, .str s, .ref r] ∧ Rd H a (.dK (mvK ss as)) ∧ MvIn H ss as row ∧ ss.Perm sts ∧
  (∀ s ∈ sts, (keysD (row s)).Perm ds ∧ ∀ o ∈ ds, kof (row s) o = t s o) ∧ MV sts ds t ∧ s ∈ sts ∧ H r = some (.lst (L.map V.str)) ∧ (∀ o ∈ L, o ∈ ds) ∧ Q (.str (L.foldl t s)) H
abbrev nLed : List Str := ["moves", "state", "log", "deed"]
theorem scLed : FnScope nLed ["moves", "state", "log"] (defScope pLed) := ⟨rfl, rfl, rfl, by decide +kernel, rfl, by decide +kernel, by decide +kernel⟩
theorem ok_Led {g : Addr} {fd : FuncData} (F : Fun K "_led" "_led" pLed g fd) : FnOk P w K mg base CX0 1 g fd ["moves", "state", "log"] spLedT := by
  refine F.ok scLed (fun vs H Q E h => ?_) (fun cdv A outer s H vs Q E hr h => ?_)
  · obtain ⟨a, ss, as, row, sts, ds, t, s, r, L, rfl, _⟩ := h
    rfl
  · obtain ⟨a, ss, as, row, sts, ds, t, s0, r, L, rfl, ha, mi, pm, kt, mv, hs, hr', hL, k⟩ := h
    have nd := scLed.nd
    refine ⟨_, pss_cons (ps_for PassesOwn.never rfl (pi_list (pv 2)) (pg_name (i := 3) nd rfl (Or.inl rfl)) (pss_one (ps_set (i := 1) nd rfl (Or.inl rfl) (pe_dget (hu_of hr) (pe_dget (hu_of hr) (pv 0) (pv 1) (fun _ _ => rfl)) (pv 3) (fun _ _ => rfl)))))
      (pss_one (ps_ret (pv 1))), ?_⟩
    refine ⟨_, rfl, r, rfl, ⟨_, SqL.of hr'⟩, ?_⟩
    refine for_list (K := K) (a := r) (xs := L.map V.str) (fun i σ H' => ∃ x3, σ = [some (.ref a), some (.str ((L.take i).foldl t s0)), some (.ref r), x3] ∧ H' = H) ?_ ?_ ?_ ?_
    · exact ⟨_, rfl, rfl⟩
    · rintro i σ H' _ ⟨x3, rfl, rfl⟩
      exact SqL.of hr'
    · rintro i v σ H' hx ⟨x3, rfl, rfl⟩
      obtain ⟨o, eo, rfl⟩ := str_get hx
      have mo := hL o (List.mem_of_getElem? eo)
      have ms : (L.take i).foldl t s0 ∈ sts := led_mem mv hs fun x hx => hL x (List.mem_of_mem_take hx)
      obtain ⟨b, vb, hb, _⟩ := mvK_get mi (pm.nodup_iff.mpr mv.asc.nodup) (pm.mem_iff.mpr ms)
      refine at_name (σ' := [some (.ref a), some (.str ((L.take i).foldl t s0)), some (.ref r), some (.str o)]) rfl ?_
      have dg : DGet H' a (.str ((L.take i).foldl t s0)) (some (.ref b)) := .inl ⟨_, Sum.inr _, ha, rfl, vb.symm⟩
      have dg2 := DGet.k (k := Sum.inr o) hb
      obtain ⟨k1, k2⟩ := kt _ ms
      rw [valV_dkv (k1.nodup_iff.mpr mv.dsc.nodup) (k1.mem_iff.mpr mo), k2 o mo] at dg2
      refine ⟨_, rfl, _, rfl, a, _, rfl, dg, _, rfl, b, _, rfl, dg2, ?_⟩
      refine at_name (σ' := [some (.ref a), some (.str ((L.take (i + 1)).foldl t s0)), some (.ref r), some (.str o)]) (by rw [take_next' eo, List.foldl_append]; rfl) ?_
      exact ⟨_, rfl, rfl⟩
    · rintro σ H' ⟨x3, rfl, rfl⟩
      rw [List.length_map, List.take_length]
      exact ⟨_, rfl, k⟩
abbrev nBehL : List Str := ["_law_moves", "_law_state", "_law_log_here", "_law_deed"]
theorem scBehL : FnScope nBehL ["_law_moves", "_law_state", "_law_log_here"] (defScope sBehind) := ⟨rfl, rfl, rfl, by decide +kernel, rfl, by decide +kernel, by decide +kernel⟩
theorem ok_BehL {g : Addr} {fd : FuncData} (F : Fun K "_law_behind" "_law_behind" sBehind g fd) : FnOk P w K mg base CX0 1 g fd ["_law_moves", "_law_state", "_law_log_here"] spLedT := by
  refine F.ok scBehL (fun vs H Q E h => ?_) (fun cdv A outer s H vs Q E hr h => ?_)
  · obtain ⟨a, ss, as, row, sts, ds, t, s, r, L, rfl, _⟩ := h
    rfl
  · obtain ⟨a, ss, as, row, sts, ds, t, s0, r, L, rfl, ha, mi, pm, kt, mv, hs, hr', hL, k⟩ := h
    have nd := scBehL.nd
    refine ⟨_, pss_cons (ps_for PassesOwn.never rfl (pi_list (pv 2)) (pg_name (i := 3) nd rfl (Or.inl rfl)) (pss_one (ps_set (i := 1) nd rfl (Or.inl rfl) (pe_dget (hu_of hr) (pe_dget (hu_of hr) (pv 0) (pv 1) (fun _ _ => rfl)) (pv 3) (fun _ _ => rfl)))))
      (pss_one (ps_ret (pv 1))), ?_⟩
    refine ⟨_, rfl, r, rfl, ⟨_, SqL.of hr'⟩, ?_⟩
    refine for_list (K := K) (a := r) (xs := L.map V.str) (fun i σ H' => ∃ x3, σ = [some (.ref a), some (.str ((L.take i).foldl t s0)), some (.ref r), x3] ∧ H' = H) ?_ ?_ ?_ ?_
    · exact ⟨_, rfl, rfl⟩
    · rintro i σ H' _ ⟨x3, rfl, rfl⟩
      exact SqL.of hr'
    · rintro i v σ H' hx ⟨x3, rfl, rfl⟩
      obtain ⟨o, eo, rfl⟩ := str_get hx
      have mo := hL o (List.mem_of_getElem? eo)
      have ms : (L.take i).foldl t s0 ∈ sts := led_mem mv hs fun x hx => hL x (List.mem_of_mem_take hx)
      obtain ⟨b, vb, hb, _⟩ := mvK_get mi (pm.nodup_iff.mpr mv.asc.nodup) (pm.mem_iff.mpr ms)
      refine at_name (σ' := [some (.ref a), some (.str ((L.take i).foldl t s0)), some (.ref r), some (.str o)]) rfl ?_
      have dg : DGet H' a (.str ((L.take i).foldl t s0)) (some (.ref b)) := .inl ⟨_, Sum.inr _, ha, rfl, vb.symm⟩
      have dg2 := DGet.k (k := Sum.inr o) hb
      obtain ⟨k1, k2⟩ := kt _ ms
      rw [valV_dkv (k1.nodup_iff.mpr mv.dsc.nodup) (k1.mem_iff.mpr mo), k2 o mo] at dg2
      refine ⟨_, rfl, _, rfl, a, _, rfl, dg, _, rfl, b, _, rfl, dg2, ?_⟩
      refine at_name (σ' := [some (.ref a), some (.str ((L.take (i + 1)).foldl t s0)), some (.ref r), some (.str o)]) (by rw [take_next' eo, List.foldl_append]; rfl) ?_
      exact ⟨_, rfl, rfl⟩
    · rintro σ H' ⟨x3, rfl, rfl⟩
      rw [List.length_map, List.take_length]
      exact ⟨_, rfl, k⟩
structure BhC (P : Program) (w : World) (K : PySem.W.Frag) (mg : Str → Option Value) (base : Heap) (G : Addr) : Prop where
  cs : Cee P w K mg base 1 "check_store" ["store"] (spCheckStore G)
  cl : Cee P w K mg base 3 "check_log_of_store" ["store", "log"] (spCheckLogS G)
  sta : Mee P w K mg base G 1 "states" ["self"] (spGStates G)
  mov : Mee P w K mg base G 1 "moves" ["self"] (spGMoves G)
  led : Cee P w K mg base 1 "_led" ["moves", "state", "log"] spLedT
def spBehindS (G : Addr) : Sp := fun vs H Q _ => ∃ (p r : Addr) (s : Str) (sts ds : List Str) (t : Str → Str → Str) (L : List Str), vs = [.ref p, .str s, .ref r] ∧ GoE G H p sts ds t ∧ s ∈ sts ∧ H r = some (.lst (L.map V.str)) ∧ L.length ≤ 1000 ∧ (∀ o ∈ L, o ∈ ds) ∧ ∀ H', L2.Same H H' → Q (.str (L.foldl t s)) H'
theorem scBehS : FnScope ["store", "state", "log"] ["store", "state", "log"] (defScope pBehind) := ⟨rfl, rfl, rfl, by decide +kernel, rfl, by decide +kernel, by decide +kernel⟩
theorem ok_behindS {g : Addr} {fd : FuncData} (F : Fun K "behind" "behind" pBehind g fd) (T : GTx K mg G) (M : BhC P w K mg base G) : FnOk P w K mg base CX0 4 g fd ["store", "state", "log"] (spBehindS G) := by
  refine F.ok scBehS (fun vs H Q E h => ?_) (fun cdv A outer s H vs Q E hr h => ?_)
  · obtain ⟨p, r, s, sts, ds, t, L, rfl, _⟩ := h
    rfl
  · obtain ⟨p, r, s0, sts, ds, t, L, rfl, g1, hs, hr', few, hL, k⟩ := h
    refine ⟨_, pss_cons (ps_expr (pe_c M.cs hr rfl (pa_cons (pv 0) pa_nil)))
      (pss_cons (ps_if (pt_cmpR op_notIn_seq (pv 1) (pe_m0 M.sta T.cl hr (pv 0)) (by rfl)) (pss_one ps_never) pss_nil)
      (pss_cons (ps_expr (pe_c M.cl hr rfl (pa_cons (pv 0) (pa_cons (pv 2) pa_nil))))
      (pss_one (ps_ret (pe_c M.led hr rfl (pa_cons (pe_m0 M.mov T.cl hr (pv 0)) (pa_cons (pv 1) (pa_cons (pv 2) pa_nil)))))))), ?_⟩
    obtain ⟨dx, m, bs, g2⟩ := id g1
    refine ⟨_, rfl, p, sts, ds, t, rfl, g1, ?_⟩
    refine ⟨_, rfl, _, rfl, p, dx, _, rfl, g2.st.ob, gflds_no _ (by decide +kernel), p, sts, ds, t, rfl, g1, fun sq H1 s1 hsq0 hsq => ?_⟩
    refine ⟨sq, _, rfl, .inl (SqL.of hsq), rfl, flat_strs _, _, rfl, ?_⟩
    rw [inV_strs, decide_eq_true hs]
    refine iteF ?_
    refine ⟨_, rfl, _, rfl, p, r, sts, ds, t, L, rfl, g1.mono s1, s1 _ _ hr', few, hL, fun H2 s2 => ?_⟩
    have s02 := s1.trans s2
    have g3 := g2.mono s02
    refine ⟨_, rfl, p, dx, _, rfl, g3.st.ob, gflds_no _ (by decide +kernel), p, dx, m, sts, bs, _, ds, rfl, g3.st, g3.mv.ok, fun q bs2 H3 s3 hq0 hbs mv3 => ?_⟩
    have kk := (mv3.toT g2.mv)
    exact ⟨_, rfl, _, rfl, q, sts, bs2, _, sts, ds, t, s0, r, L, rfl, .inl mv3.at', mv3.inns, List.Perm.refl _, (fun s _ => ⟨by rw [rowT_keys], fun o ho => kof_rowT g2.mv.dsc.nodup t s ho⟩), g2.mv, hs, s3 _ _ (s02 _ _ hr'), hL, k _ (s02.trans s3)⟩
def spBehindAll (G : Addr) : Sp := fun vs H Q _ => ∃ (p r : Addr) (sts ds : List Str) (t : Str → Str → Str) (L : List Str), vs = [.ref p, .ref r] ∧ GoE G H p sts ds t ∧ H r = some (.lst (L.map V.str)) ∧ L.length ≤ 1000 ∧ (∀ o ∈ L, o ∈ ds) ∧
  ∀ q H', L2.Same H H' → H q = none → H' q = some (.dK (dkv (sts.map fun s => (s, L.foldl t s)))) → Q (.ref q) H'
abbrev nBehA : List Str := ["store", "log", "moves", "state"]
theorem scBehA : FnScope nBehA ["store", "log"] (defScope pBehindAll) := ⟨rfl, rfl, rfl, by decide +kernel, rfl, by decide +kernel, by decide +kernel⟩
theorem ok_behindAll {g : Addr} {fd : FuncData} (F : Fun K "behind_all" "behind_all" pBehindAll g fd) (T : GTx K mg G) (M : BhC P w K mg base G) : FnOk P w K mg base CX0 4 g fd ["store", "log"] (spBehindAll G) := by
  refine F.ok scBehA (fun vs H Q E h => ?_) (fun cdv A outer s H vs Q E hr h => ?_)
  · obtain ⟨p, r, sts, ds, t, L, rfl, _⟩ := h
    rfl
  · obtain ⟨p, r, sts, ds, t, L, rfl, g1, hr', few, hL, k⟩ := h
    have nd := scBehA.nd
    refine ⟨_, pss_cons (ps_expr (pe_c M.cs hr rfl (pa_cons (pv 0) pa_nil)))
      (pss_cons (ps_expr (pe_c M.cl hr rfl (pa_cons (pv 0) (pa_cons (pv 1) pa_nil))))
      (pss_cons (ps_set (i := 2) nd rfl (Or.inr rfl) (pe_m0 M.mov T.cl hr (pv 0)))
      (pss_one (ps_ret (pe_lock (GC.pe_dcK (own := [("state", 3)]) (g := gName 3) (tt := tYes) (tk := tVar 3) (tv := tCall spLedT [] E0 (tCons (tVar 2) (tCons (tVar 3) (tCons (tVar 1) tNil)))) rfl nd (pi_keys (pv 2))
        (blkOk_by (own := [("state", 3)]) (N := nBehA) (sc := defScope pBehindAll) (by decide +kernel)) (fun _ _ _ _ _ => pg_name (i := 3) nd rfl (Or.inl rfl)) (fun _ _ _ _ _ => pts_nil) GC.cl0 trivial (fun _ _ _ _ _ => pv 3)
        (fun _ _ _ _ _ => pe_c M.led hr rfl (pa_cons (pv 2) (pa_cons (pv 3) (pa_cons (pv 1) pa_nil)))))))))), ?_⟩
    obtain ⟨dx, m, bs, g2⟩ := id g1
    refine ⟨_, rfl, p, sts, ds, t, rfl, g1, ?_⟩
    refine ⟨_, rfl, _, rfl, p, r, sts, ds, t, L, rfl, g1, hr', few, hL, fun H2 s2 => ?_⟩
    have g3 := g2.mono s2
    refine ⟨_, rfl, p, dx, _, rfl, g3.st.ob, gflds_no _ (by decide +kernel), p, dx, m, sts, bs, _, ds, rfl, g3.st, g3.mv.ok, fun q bs2 H3 s3 hq0 hbs mv3 => ?_⟩
    refine at_name (σ' := [some (.ref p), some (.ref r), some (.ref q), none]) rfl ?_
    have hr3 := s3 _ _ (s2 _ _ hr')
    have nrq : r ≠ q := ne_of hr3 mv3.at' (by intro z; cases z)
    refine dcS_keys (key := fun z => z) (val := fun z => .str (L.foldl t z)) (xs := sts) (kvs := mvK sts bs2) (fun od R hh => ⟨_, rfl, hh⟩) mv3.at' mv3.keys (by have := g2.mv.few; omega) ?_ ?_
    · intro x od H4 R Cn kc hx s4 kR
      refine at_name (σ' := [some (.ref p), some (.ref r), some (.ref q), some (.str x)]) rfl ⟨rfl, kc _ _ ?_⟩
      exact ⟨_, rfl, _, rfl, _, rfl, _, rfl, q, sts, bs2, _, sts, ds, t, x, r, L, rfl, .inr ⟨od, s4 _ _ upd_same⟩, mv3.lock.mono s4, List.Perm.refl _, (fun s _ => ⟨by rw [rowT_keys], fun o ho => kof_rowT g2.mv.dsc.nodup t s ho⟩), g2.mv, hx, s4 _ _ ((upd_ne nrq).trans hr3), hL, kR _ (fun _ _ e => e)⟩
    · intro d H4 s4 hd0 hd
      rw [mergeK_strs g2.mv.asc.nodup] at hd
      refine k d H4 (s2.trans (s3.trans s4)) ((s2.trans s3).free hd0) ?_
      rw [hd]
      unfold dkv
      rw [List.map_map]; rfl
end
end KT
set_option Elab.async false
set_option linter.all false
set_option maxRecDepth 100000
set_option maxHeartbeats 4000000
set_option pp.maxSteps 900
namespace DZip
open PySem PySem.Spec PyProof.Rows L2
variable {X : Cx}
/-- dict(zip(list, list)) -/
def tDictZip (K : PySem.W.Frag) (ta : TA) : TE := fun σ H Q => ta σ H fun vs H1 => ∃ (a b : Addr) (ks : List Key) (ys : List V), vs = [.ref a, .ref b] ∧ SqL K H1 a (ks.map kV) ∧ SqL K H1 b ys ∧ ks.length = ys.length ∧ ∀ p, H1 p = none → Q (.ref p) (upd H1 p (.dK (mergeK [] (ks.zip ys))))
theorem kv_zip : ∀ {ks : List Key} {ys : List V} {us : List Value}, Vals ys us → KV (ks.zip ys) (ks.zip us)
  | [], _, _, _ => .nil
  | _ :: _, [], _, h => by cases h; exact .nil
  | k :: ks, y :: ys, _, .cons r t => .cons ⟨rfl, r⟩ (kv_zip t)
theorem pe_dictZip {e e2 : Expr} {ta : TA} {p p2 pos pos2 : Pos} (hc : X.calm = true) (hg : Gl X "dict") (hm : X.mg "dict" = none) (hgz : Gl X "zip") (hmz : X.mg "zip" = none) (ha : PA X [e, e2] ta) (hv : bootBuiltins "dict" = some (.type "dict") := by decide +kernel)
    (hs : starEach [.Call (.Name "zip" p2) [e, e2] [] pos2] X.env = (false, eval (.Call (.Name "zip" p2) [e, e2] [] pos2) X.env) :: starEach [] X.env := by rfl)
    (hs2 : starEach [e, e2] X.env = (false, eval e X.env) :: starEach [e2] X.env := by rfl) (hpl : (backTo pos2 (starEach [e2] X.env)).any (·.1) = false := by rfl) :
    PE X (.Call (.Name "dict" p) [.Call (.Name "zip" p2) [e, e2] [] pos2] [] pos) (tDictZip X.K ta) := by
  refine ⟨fun pins s σ H Q I q => wpAny_Call_Name_kw (ld_blt I hg hm hv (PyProof.Rows.callWith_type1 ?_ hs rfl))⟩
  rw [hs]
  refine Calls.spliced_cons (wpAny_Call_Name_kw (ld_blt I hgz hmz PyProof.Rows.boot_zip (PyProof.Rows.callWith_type1 (thn (ha.run pos2 pins s σ H _ I q) fun us s1 ⟨vs, H1, I1, r1, q1⟩ => ?_) hs2 hpl)))
  obtain ⟨a, b, ks, ys, ex, hqx, hqy, hl, q⟩ := q1
  subst ex
  cases r1 with
  | cons r rr =>
    cases rr with
    | cons r' rr =>
      cases rr
      cases r
      cases r'
      obtain ⟨its, rv, p1, l1⟩ := I1.list hqx
      obtain ⟨its2, rv2, pp2, l2⟩ := I1.list hqy
      have e1 := rv.length
      have e2 := rv2.length
      rw [List.length_map] at e1
      refine call_zip_2 p1.isList pp2.isList fun h' hz hTI hTO h1 h2 hsz hk => Calls.spliced_nil ?_
      have I2 : Inv X pins σ H1 { s1 with heap := h' } := I1.kept (t' := s1.toks) hk
      have D := PySem.W.ktu_apart s1.heap.objs.size a b p1.lt pp2.lt
      refine PySem.call_dict_pairs (knd := mixKind X.prog X.w) (kvs := ks.zip its2) (PairArg.zip _ _ _ _ _ _ _ D its.toArray its2.toArray) (I2.ok.hd hc) ⟨hz, hTI, ⟨_, _, hTO⟩, h1, h2, p1.isList.at fun o e => hk _ o e, pp2.isList.at fun o e => hk _ o e⟩ ⟨?_, ?_⟩ ?_ fun h'' tk hd' hk' => ?_
      · rw [List.length_zip, List.size_toArray, List.size_toArray]; omega
      · rintro i key v ⟨hx, hy⟩
        have hx : its[i]? = some key := by simpa using hx
        have hy : its2[i]? = some v := by simpa using hy
        have ik : i < ks.length := by
          have := (List.getElem?_eq_some_iff.mp hx).1
          omega
        have ek : ks[i]? = some ks[i] := List.getElem?_eq_getElem ik
        refine ⟨ks[i], List.getElem?_zip_eq_some.mpr ⟨ek, hy⟩, ?_⟩
        obtain ⟨u, hu, ru⟩ := rv.get (i := i) (x := kV ks[i]) (by rw [List.getElem?_map, ek]; rfl)
        rw [hx] at hu
        obtain rfl := Option.some.inj hu
        exact kV_is (P := X.prog) (w := X.w) ru
      · rw [List.size_toArray, List.size_toArray]
        rw [List.length_map] at l1
        omega
      · have rel : KV (ks.zip ys) (ks.zip its2) := kv_zip rv2
        have hlen : (mergeK [] (ks.zip ys)).length ≤ sizeLine := by
          have z := length_mergeK (ks.zip ys) []
          have z2 : (ks.zip ys).length ≤ ks.length := by rw [List.length_zip]; omega
          have z3 : ([] : List (Key × V)).length = 0 := rfl
          have z4 : ks.length ≤ sizeLine := by rw [List.length_map] at l1; exact l1
          omega
        have hle : s1.heap.objs.size ≤ h'.objs.size := by rw [hsz]; omega
        have hmS : (h'.objs.size == sysModules) = false := beq_eq_false_iff_ne.mpr (Nat.ne_of_gt I2.big)
        have lt : ∀ b o, s1.heap.get? b = some o → b ∉ [s1.heap.objs.size + 4, s1.heap.objs.size + 3, s1.heap.objs.size, s1.heap.objs.size + 1] := fun b o e => by
          have h := Heap.lt_size e
          intro hm
          simp only [List.mem_cons, List.not_mem_nil, or_false] at hm
          have h2 : (b : Nat) < s1.heap.objs.size := h
          rcases hm with hm | hm | hm | hm
          · exact Nat.lt_irrefl _ (Nat.lt_of_lt_of_le (hm ▸ h2) (Nat.le_add_right _ _))
          · exact Nat.lt_irrefl _ (Nat.lt_of_lt_of_le (hm ▸ h2) (Nat.le_add_right _ _))
          · exact Nat.lt_irrefl _ (Nat.lt_of_lt_of_le (hm ▸ h2) (Nat.le_refl _))
          · exact Nat.lt_irrefl _ (Nat.lt_of_lt_of_le (hm ▸ h2) (Nat.le_add_right _ _))
        exact ⟨.ref h'.objs.size, upd H1 h'.objs.size (.dK (mergeK [] (ks.zip ys))), I1.laid (t' := tk) (fun b o e => hk' b o (lt b o e) (hk b o e)) hle (show ObjOk X.prog X.w _ _ _ (.dK (mergeK [] (ks.zip ys))) from ⟨hlen, hmS, merged [] (ks.zip its2), KV.merge rel .nil, hd'⟩), rfl, q _ (I1.hok.fresh hle)⟩
end DZip
set_option Elab.async false
set_option linter.all false
set_option maxRecDepth 100000
set_option maxHeartbeats 4000000
set_option pp.maxSteps 900
namespace KT
open PySem L2 PyProof.Rows DTp TxS DKq
def PrT (H : Hp) (ts : List Addr) (ps : List (Str × Str)) : Prop := Paired (fun t (p : Str × Str) => H t = some (.tup [.str p.1, .str p.2])) ts ps
theorem PrT.mono {H H' : Hp} {ts : List Addr} {ps : List (Str × Str)} (h : PrT H ts ps) (s : L2.Same H H') : PrT H' ts ps := Paired.mapP h fun _ _ e => s _ _ e
theorem PrT.upd {H : Hp} {ts : List Addr} {ps : List (Str × Str)} (h : PrT H ts ps) {D : Addr} {xs : List V} (hD : H D = some (.lst xs)) (o : HO) : PrT (upd H D o) ts ps := Paired.mapP h fun _ _ e => (upd_ne (ne_of e hD (fun z => nomatch z))).trans e
theorem PrT.snoc {H : Hp} {ts : List Addr} {ps : List (Str × Str)} (h : PrT H ts ps) {t : Addr} {p : Str × Str} (e : H t = some (.tup [.str p.1, .str p.2])) : PrT H (ts ++ [t]) (ps ++ [p]) := paired_snoc h e
def prsG (sts sts2 : List Str) : List (Str × Str) := sts.flatMap fun s => sts2.map fun b => (s, b)
theorem prsG_len (sts sts2 : List Str) : (prsG sts sts2).length = sts.length * sts2.length := by
  unfold prsG
  induction sts with
  | nil => simp
  | cons a L ih => rw [List.flatMap_cons, List.length_append, ih, List.length_map, List.length_cons, Nat.add_mul, Nat.one_mul, Nat.add_comm]
theorem prsG_take {sts sts2 : List Str} {i : Nat} {x : Str} (e : sts[i]? = some x) : prsG (sts.take (i + 1)) sts2 = prsG (sts.take i) sts2 ++ sts2.map fun b => (x, b) := by
  rw [take_next' e]
  unfold prsG
  rw [List.flatMap_append, List.flatMap_cons, List.flatMap_nil, List.append_nil]
section
variable {P : Program} {w : World} {K : PySem.W.Frag} {mg : Str → Option Value} {base : Heap} {G : Addr}
def spBothN (G : Addr) : Sp := fun vs H Q _ => ∃ (p q : Addr) (sts sts2 ds : List Str) (t t2 : Str → Str → Str), vs = [.ref p, .ref q] ∧ GoE G H p sts ds t ∧ GoE G H q sts2 ds t2 ∧ sts.length * sts2.length < 64 ∧
  ∀ d ts H', L2.Same H H' → H d = none → H' d = some (.dK (mvK (cws (sts.length * sts2.length)) ts)) → PrT H' ts (prsG sts sts2) → Q (.ref d) H'
abbrev nBothN : List Str := ["one", "other", "pairs", "state", "beside"]
theorem scBothN : FnScope nBothN ["one", "other"] (defScope pBothN) := ⟨rfl, rfl, rfl, by decide +kernel, rfl, by decide +kernel, by decide +kernel⟩
structure BnC (P : Program) (w : World) (K : PySem.W.Frag) (mg : Str → Option Value) (base : Heap) (G : Addr) : Prop where
  cs : Cee P w K mg base 1 "check_store" ["store"] (spCheckStore G)
  sta : Mee P w K mg base G 1 "states" ["self"] (spGStates G)
  ded : Mee P w K mg base G 2 "deeds" ["self"] (spGDeeds G)
  wds : Cee P w K mg base 1 "counting_words" ["many"] spCntWords
theorem ok_bothN {g : Addr} {fd : FuncData} (F : Fun K "both_names" "both_names" pBothN g fd) (B0 : Blt mg) (Z : Blp mg) (hz : mg "zip" = none) (T : GTx K mg G) (M : BnC P w K mg base G) : FnOk P w K mg base CX0 3 g fd ["one", "other"] (spBothN G) := by
  refine F.ok scBothN (fun vs H Q E h => ?_) (fun cdv A outer s H vs Q E hr h => ?_)
  · obtain ⟨p, q, sts, sts2, ds, t, t2, rfl, _⟩ := h
    rfl
  · obtain ⟨p, q, sts, sts2, ds, t, t2, rfl, g1, g2, few, k⟩ := h
    have nd := scBothN.nd
    refine ⟨_, pss_cons (ps_expr (pe_c M.cs hr rfl (pa_cons (pv 0) pa_nil)))
      (pss_cons (ps_expr (pe_c M.cs hr rfl (pa_cons (pv 1) pa_nil)))
      (pss_cons (ps_if (pt_cmpR (op_neD hr.units) (pe_m0 M.ded T.cl hr (pv 0)) (pe_m0 M.ded T.cl hr (pv 1)) (nomark _)) (pss_one ps_never) pss_nil)
      (pss_cons (ps_setLc2 (i := 2) (own := [("state", 3), ("beside", 4)]) (vs1 := [4]) (g := gName 3) (tt := tYes) (wi1 := iList K (tMeth G (Str.ofString "states") (spGStates G) [] E0 (tVar 1) tNil)) (g1 := gName 4) (tt1 := tYes) (te := tTup (tCons (tVar 3) (tCons (tVar 4) tNil))) rfl nd rfl rfl (sw_true rfl rfl rfl (by decide +kernel)) (pi_list (pe_m0 M.sta T.cl hr (pv 0))) (blkOk_by (own := [("state", 3), ("beside", 4)]) (N := nBothN) (sc := defScope pBothN) (by decide +kernel)) (by decide)
            (fun _ _ _ _ _ => pg_name (i := 3) nd rfl (Or.inl rfl)) (fun _ _ _ _ _ => pts_nil) (fun _ _ _ _ _ => pi_list (pe_m0 M.sta T.cl hr (pv 1))) (fun _ _ _ _ _ => pg_name (i := 4) nd rfl (Or.inl rfl)) (fun _ _ _ _ _ => pts_nil) (fun _ _ _ _ _ => pe_tup (pa_cons (pv 3) (pa_cons (pv 4) pa_nil))))
      (pss_one (ps_ret (DZip.pe_dictZip rfl (by rfl) Z.dict (by rfl) hz (pa_cons (pe_c M.wds hr rfl (pa_cons (pe_callB call_len_seq (by rfl) B0.len PySem.boot_len (pa_cons (pv 2) pa_nil)) pa_nil)) (pa_cons (pv 2) pa_nil)))))))), ?_⟩
    obtain ⟨dx, m, bs, g1'⟩ := id g1
    obtain ⟨dx2, m2, bs2, g2'⟩ := id g2
    have mv1 := g1'.mv
    have mv2 := g2'.mv
    have f1 := mv1.few
    have f2 := mv2.few
    refine ⟨_, rfl, p, sts, ds, t, rfl, g1, ?_⟩
    refine ⟨_, rfl, q, sts2, ds, t2, rfl, g2, ?_⟩
    refine ⟨_, rfl, p, dx, _, rfl, g1'.st.ob, gflds_no _ (by decide +kernel), p, sts, ds, t, rfl, g1, fun a1 H1 s1 ha10 ha1 => ?_⟩
    have g2a := g2'.mono s1
    refine ⟨_, rfl, q, dx2, _, rfl, g2a.st.ob, gflds_no _ (by decide +kernel), q, sts2, ds, t2, rfl, g2.mono s1, fun a2 H2 s2 ha20 ha2 => ?_⟩
    refine ⟨_, _, dp_strs (SqL.of (s2 _ _ ha1)), dp_strs (SqL.of ha2), shaped_strs _ mv1.dwd, shaped_strs _ mv1.dwd, _, rfl, ?_⟩
    rw [eqv_strs, decide_eq_true rfl]
    refine iteF ?_
    have s02 := s1.trans s2
    have g1b := g1'.mono s02
    have g2b := g2'.mono s02
    dsimp only [tNext, tSeq, tAsg]
    refine ⟨_, rfl, p, dx, _, rfl, g1b.st.ob, gflds_no _ (by decide +kernel), p, sts, ds, t, rfl, g1.mono s02, fun l1 H3 s3 hl10 hl1 => ?_⟩
    have s03 := s02.trans s3
    have g2c := g2'.mono s03
    refine ⟨l1, rfl, ⟨_, SqL.of hl1⟩, fun D hD => ?_⟩
    refine ⟨fun i n H' => n = sts.length - i ∧ i ≤ sts.length ∧ L2.Same H3 H' ∧ ∃ ts, H' D = some (.lst (ts.map V.ref)) ∧ PrT H' ts (prsG (sts.take i) sts2), ⟨_, rfl, Nat.zero_le _, Same.new hD, [], upd_same, .nil⟩, ?_⟩
    rintro i n H4 ⟨rfl, hi, s4, ts, hD4, pr4⟩
    have wk := walk_list (K := K) (a := l1) (xs := sts.map V.str)
    by_cases hlt : i < sts.length
    · refine .inr ⟨wk.goes i H4 (by rw [List.length_map]; exact hlt) (SqL.of (s4 _ _ hl1)), fun H' => L2.Same H3 H' ∧ ∃ ts, H' D = some (.lst (ts.map V.ref)) ∧ PrT H' ts (prsG (sts.take (i + 1)) sts2), fun H' h => ⟨_, by omega, rfl, by omega, h.1, h.2⟩, fun v H5 y => ?_⟩
      obtain ⟨rfl, hx⟩ := wk.yields i H4 v H5 (by rw [List.length_map]; exact hlt) (SqL.of (s4 _ _ hl1)) y
      obtain ⟨x, ex, rfl⟩ := str_get hx
      refine at_name (σ' := [some (.ref p), some (.ref q), none, some (.str x), none]) rfl ⟨rfl, yes_if ?_⟩
      have g2d := g2c.mono s4
      refine ⟨_, rfl, q, dx2, _, rfl, g2d.st.ob, gflds_no _ (by decide +kernel), q, sts2, ds, t2, rfl, ⟨dx2, m2, bs2, g2d⟩, fun l2 H6 s6 hl20 hl2 => ?_⟩
      have pr6 := pr4.mono s6
      have hD6 := s6 _ _ hD4
      have s46 := L2.Same.trans s4 s6
      refine ⟨l2, rfl, ⟨_, SqL.of hl2⟩, fun j n H' => n = sts2.length - j ∧ j ≤ sts2.length ∧ L2.Same H3 H' ∧ H' l2 = some (.lst (sts2.map V.str)) ∧ ∃ ts, H' D = some (.lst (ts.map V.ref)) ∧ PrT H' ts (prsG (sts.take i) sts2 ++ (sts2.take j).map fun b => (x, b)), ⟨_, rfl, Nat.zero_le _, s46, hl2, ts, hD6, by rw [List.take_zero, List.map_nil, List.append_nil]; exact pr6⟩, ?_⟩
      rintro j n H7 ⟨rfl, hj, s7, hl27, ts7, hD7, pr7⟩
      have w2 := walk_list (K := K) (a := l2) (xs := sts2.map V.str)
      have lts : ts7.length ≤ 4096 := by
        have e := Paired.length pr7
        rw [List.length_append, prsG_len, List.length_map, List.length_take, List.length_take] at e
        have : min i sts.length * sts2.length ≤ 63 * 63 := Nat.mul_le_mul (by omega) (by omega)
        omega
      by_cases jlt : j < sts2.length
      · refine .inr ⟨w2.goes j H7 (by rw [List.length_map]; exact jlt) (SqL.of hl27), fun H' => L2.Same H3 H' ∧ H' l2 = some (.lst (sts2.map V.str)) ∧ ∃ ts, H' D = some (.lst (ts.map V.ref)) ∧ PrT H' ts (prsG (sts.take i) sts2 ++ (sts2.take (j + 1)).map fun b => (x, b)), fun H' h => ⟨_, by omega, rfl, by omega, h.1, h.2⟩, fun v H8 y => ?_⟩
        obtain ⟨e8, hy⟩ := w2.yields j H7 v H8 (by rw [List.length_map]; exact jlt) (SqL.of hl27) y
        rw [e8]
        clear e8 y H8
        obtain ⟨z, ez, rfl⟩ := str_get hy
        refine at_name (σ' := [some (.ref p), some (.ref q), none, some (.str x), some (.str z)]) rfl ⟨rfl, yes_if ?_⟩
        refine ⟨_, rfl, _, rfl, (by show 2 ≤ sizeLine; decide), fun tt htt0 => ?_⟩
        have s8 := Same.new (H := H7) (o := .tup [.str x, .str z]) htt0
        have htt : upd H7 tt (.tup [.str x, .str z]) tt = _ := upd_same
        generalize upd H7 tt (.tup [.str x, .str z]) = H8 at s8 htt ⊢
        have hD8 := s8 _ _ hD7
        have nl : l2 ≠ D := fun e => by
          rw [e, hD4] at hl20; cases hl20
        refine ⟨_, hD8, by rw [List.length_map, sizeLine_eq]; omega, fun c o e => ?_, (upd_ne nl).trans (s8 _ _ hl27), ts7 ++ [tt], ?_, ?_⟩
        · rw [upd_ne (ne_of_none e hD)]
          exact s8 _ _ (s7 _ _ e)
        · rw [upd_same, List.map_append]; rfl
        · rw [take_next' ez, List.map_append, ← List.append_assoc]
          exact (((pr7.mono s8).snoc (p := (x, z)) htt).upd hD8 _)
      · have ej : j = sts2.length := by omega
        subst ej
        refine .inl ⟨?_, s7, ts7, hD7, ?_⟩
        · have := w2.stops H7 (SqL.of hl27)
          rwa [List.length_map] at this
        · rw [prsG_take ex]
          rw [List.take_length] at pr7
          exact pr7
    · have ei : i = sts.length := by omega
      subst ei
      refine .inl ⟨?_, ?_⟩
      · have := wk.stops H4 (SqL.of (s4 _ _ hl1))
        rwa [List.length_map] at this
      rw [List.take_length] at pr4
      refine at_name (σ' := [some (.ref p), some (.ref q), some (.ref D), none, none]) rfl ?_
      have lts : ts.length = sts.length * sts2.length := by rw [Paired.length pr4, prsG_len]
      refine ⟨_, rfl, D, _, rfl, .inl (SqL.of hD4), sts.length * sts2.length, by rw [List.length_map, lts]; rfl, by omega, fun wq H5 s5 hwq0 hwq => ?_⟩
      have lw : (cws (sts.length * sts2.length)).length = sts.length * sts2.length := cws_len _ (by omega)
      refine ⟨_, rfl, wq, D, (cws (sts.length * sts2.length)).map Sum.inr, ts.map V.ref, rfl, ?_, SqL.of (s5 _ _ hD4), by rw [List.length_map, List.length_map, lw, lts], fun dd hdd0 => ?_⟩
      · rw [List.map_map]
        exact SqL.of hwq
      · have e1 : mergeK [] (((cws (sts.length * sts2.length)).map (Sum.inr : Str → Key)).zip (ts.map V.ref)) = mvK (cws (sts.length * sts2.length)) ts := by
          have e2 : ((cws (sts.length * sts2.length)).map (Sum.inr : Str → Key)).zip (ts.map V.ref) = mvK (cws (sts.length * sts2.length)) ts := by
            rw [List.zip_map]; rfl
          rw [e2, mergeK_nd _ _ (by rw [List.nil_append, mvK_keys (by rw [lts, lw])]; exact inr_nodup (cws_nd (by omega))), List.nil_append]
        rw [e1]
        have s3D : L2.Same H3 H4 := s4
        have sA := s03.trans (s4.trans s5)
        refine k dd ts _ (sA.trans (Same.new hdd0)) (sA.free hdd0) upd_same ?_
        exact (pr4.mono s5).mono (Same.new hdd0)
end
end KT
set_option Elab.async false
set_option linter.all false
set_option maxRecDepth 100000
set_option maxHeartbeats 4000000
set_option pp.maxSteps 900
namespace KT
open PySem L2 PyProof.Rows DTp TxS DKq
section
variable {K : PySem.W.Frag}
/-- {(a tuple): value for text in dict} -/
theorem dcT_strs {key2 : Str → List Key} {val2 : Str → V} {te0 tk tv : TE} {tg iter : Expr} {ifs : List Expr} {g : TG} {vs : List Nat} {σ : L2.St} {H : Hp} {Q : VK} {d : Addr} {kvs : List (Key × V)} {xs : List Str}
    (hi : ∀ od (R : VK), R (.ref d) (upd H d (.frz od (.dK kvs))) → te0 σ (upd H d (.frz od (.dK kvs))) R) (hd : H d = some (.dK kvs)) (ek : kvs.map (·.1) = xs.map Sum.inr) (few : xs.length ≤ 1000)
    (step : ∀ x od H1 (R : V → V → Hp → Prop) (Cn : L2.St → Hp → Prop), (∀ σ2 H2, (tk σ2 H2 fun y H3 => tv σ2 H3 fun z H4 => R y z H4) → Cn σ2 H2) → x ∈ xs → L2.Same (upd H d (.frz od (.dK kvs))) H1 → (∀ b H3, L2.Same H1 H3 → H3 b = some (.tup ((key2 x).map kV)) → R (.ref b) (val2 x) H3) → g (.str x) (wipe σ vs) H1 fun σ2 H2 => wipe σ2 vs = wipe σ vs ∧ Cn σ2 H2)
    (k : ∀ q H', L2.Same H H' → H q = none → H' q = some (.dT (mergeT [] (xs.map fun a => (key2 a, val2 a)))) → Q (.ref q) H') :
    tLockE (GC.tCo (fun _ => .dT []) ⟨tg, iter, ifs, iKeys te0, g, tYes, vs⟩ [] (GC.emT tk tv)) σ H Q := by
  have lk : kvs.length = xs.length := by have := congrArg List.length ek; rw [List.length_map, List.length_map] at this; exact this
  refine ⟨d, .dK kvs, hd, trivial, fun od => ?_⟩
  refine hi od _ ⟨d, od, rfl, .inl ⟨kvs, upd_same, fun D hD => ?_⟩⟩
  have nDd : D ≠ d := fun e => by rw [e, upd_same] at hD; cases hD
  have hD0 : H D = none := by rw [upd_ne nDd] at hD; exact hD
  refine GC.lp_it walk_keys (fun n H' => L2.Same (upd H d (.frz od (.dK kvs))) H' ∧ H' D = some (.dT (mergeT [] ((xs.take n).map fun a => (key2 a, val2 a))))) ?_ ?_ ?_ ?_
  · exact ⟨Same.new hD, upd_same⟩
  · rintro i H1 _ ⟨s1, _⟩
    exact s1 _ _ upd_same
  · rintro n x H0 H1 hn ⟨s1, hD1⟩ ⟨rfl, kk, v, hk, rfl⟩
    have hn' : n < xs.length := by omega
    have ey : xs[n]? = some xs[n] := List.getElem?_eq_getElem hn'
    have hx : (kvs.map (·.1))[n]? = some kk := by rw [List.getElem?_map, hk]; rfl
    rw [ek, List.getElem?_map, ey] at hx
    obtain rfl : Sum.inr xs[n] = kk := Option.some.inj hx
    refine step xs[n] od H1 (fun y z H2 => ∃ (kvs2 : List (List Key × V)) (k : List Key) (b : Addr), y = .ref b ∧ H2 b = some (.tup (k.map kV)) ∧ H2 D = some (.dT kvs2) ∧ kvs2.length < sizeLine ∧ (L2.Same (upd H d (.frz od (.dK kvs))) (upd H2 D (.dT (putK kvs2 k z))) ∧ (upd H2 D (.dT (putK kvs2 k z))) D = some (.dT (mergeT [] ((xs.take (n + 1)).map fun a => (key2 a, val2 a)))))) _ (fun σ2 H2 hh => hh) (List.getElem_mem hn') s1 fun b H3 s3 hb => ?_
    refine ⟨_, key2 xs[n], b, rfl, hb, s3 _ _ hD1, ?_, fun c o e => ?_, ?_⟩
    · have := length_mergeT ((xs.take n).map fun a => (key2 a, val2 a)) []
      rw [List.length_map, List.length_take, List.length_nil] at this
      exact small1000 (by omega)
    · rw [upd_ne (ne_of_none e hD)]
      exact s3 _ _ (s1 _ _ e)
    · rw [upd_same, take_next' ey, List.map_append]
      exact congrArg (fun z => some (HO.dT z)) (mergeT_snoc ((xs.take n).map fun a => (key2 a, val2 a)) [] (key2 xs[n], val2 xs[n])).symm
  · rintro H1 ⟨s1, hD1⟩
    rw [lk, List.take_length] at hD1
    have hdl : H1 d = some (.frz od (.dK kvs)) := s1 _ _ upd_same
    refine ⟨hdl, k D _ (fun b o e => ?_) hD0 ?_⟩
    · by_cases hb : b = d
      · rw [hb] at e ⊢
        rw [hd] at e
        rw [upd_same]; exact e
      · rw [upd_ne hb]
        exact s1 _ _ ((upd_ne hb).trans e)
    · rw [upd_ne nDd]; exact hD1
/-- {text: (a new object) for tuple in dict} -/
theorem dcR_keysT {ι : Type} {key : ι → List Key} {val : ι → V} (nm : ι → Str) (O : ι → HO) {te0 tk tv : TE} {tg iter : Expr} {ifs : List Expr} {g : TG} {vs : List Nat} {σ : L2.St} {H : Hp} {Q : VK} {d : Addr} {kvs : List (List Key × V)} {is : List ι}
    (hi : ∀ od (R : VK), R (.ref d) (upd H d (.frz od (.dT kvs))) → te0 σ (upd H d (.frz od (.dT kvs))) R) (hd : H d = some (.dT kvs)) (e1 : kvs = is.map fun a => (key a, val a)) (few : is.length ≤ 1000) (ndn : (is.map nm).Nodup)
    (step : ∀ a q od H2 (R : V → V → Hp → Prop) (Cn : L2.St → Hp → Prop), (∀ σ2 H3, (tk σ2 H3 fun y H4 => tv σ2 H4 fun z H5 => R y z H5) → Cn σ2 H3) → a ∈ is → L2.Same (upd H d (.frz od (.dT kvs))) H2 → H2 q = some (.tup ((key a).map kV)) → (∀ b H3, L2.Same H2 H3 → H2 b = none → H3 b = some (O a) → R (.str (nm a)) (.ref b) H3) → g (.ref q) (wipe σ vs) H2 fun σ2 H3 => wipe σ2 vs = wipe σ vs ∧ Cn σ2 H3)
    (k : ∀ q (bs : List Addr) H', L2.Same H H' → H q = none → bs.length = is.length → (q :: bs).Nodup → (∀ b ∈ bs, H b = none) → H' q = some (.dK (mvK (is.map nm) bs)) → (∀ (i : Nat) a b, is[i]? = some a → bs[i]? = some b → H' b = some (O a)) → Q (.ref q) H') :
    tLockE (GC.tCo (fun _ => .dK []) ⟨tg, iter, ifs, iKeys te0, g, tYes, vs⟩ [] (GC.emK tk tv)) σ H Q := by
  have lk : kvs.length = is.length := by rw [e1, List.length_map]
  refine ⟨d, .dT kvs, hd, trivial, fun od => ?_⟩
  refine hi od _ ⟨d, od, rfl, .inr ⟨kvs, upd_same, fun D hD => ?_⟩⟩
  obtain ⟨H1, eH1⟩ : ∃ H1, H1 = upd H d (.frz od (.dT kvs)) := ⟨_, rfl⟩
  rw [← eH1] at hD ⊢
  have hfd : H1 d = some (.frz od (.dT kvs)) := by rw [eH1]; exact upd_same
  have nDd : D ≠ d := fun e => by rw [e, hfd] at hD; cases hD
  refine GC.lp_it (walk_keysT (d := d) (o := od) (kvs := kvs)) (fun n H' => L2.Same H1 H' ∧ ∃ bs : List Addr, bs.length = n ∧ (D :: bs).Nodup ∧ (∀ b ∈ bs, H1 b = none) ∧ H' D = some (.dK (mvK ((is.take n).map nm) bs)) ∧ ∀ (i : Nat) s b, is[i]? = some s → bs[i]? = some b → H' b = some (O s)) ?_ ?_ ?_ ?_
  · exact ⟨Same.new hD, [], rfl, by simp, by simp, upd_same, by simp⟩
  · rintro i H2 _ ⟨s2, _⟩
    exact s2 _ _ hfd
  · rintro n x H0 H2 hn ⟨s2, bs, lb, nd2, fr, hD2, ob⟩ ⟨rfl, kk, v2, q, hk, rfl, hq⟩
    rw [lk] at hn
    obtain ⟨y, hyx⟩ : ∃ y, y = is[n] := ⟨_, rfl⟩
    have ey : is[n]? = some y := by rw [hyx]; exact List.getElem?_eq_getElem hn
    have ek : kvs[n]? = some (key y, val y) := by rw [e1, List.getElem?_map, ey]; rfl
    rw [hk] at ek
    have ek := Option.some.inj ek
    obtain ⟨rfl, rfl⟩ : kk = key y ∧ v2 = val y := ⟨congrArg Prod.fst ek, congrArg Prod.snd ek⟩
    refine step y q od _ (fun a z H3 => ∃ (kvs2 : List (Key × V)) (k : Key), a = kV k ∧ H3 D = some (.dK kvs2) ∧ kvs2.length < sizeLine ∧ (L2.Same H1 (upd H3 D (.dK (putK kvs2 k z))) ∧ ∃ bs : List Addr, bs.length = n + 1 ∧ (D :: bs).Nodup ∧ (∀ b ∈ bs, H1 b = none) ∧ (upd H3 D (.dK (putK kvs2 k z))) D = some (.dK (mvK ((is.take (n + 1)).map nm) bs)) ∧ ∀ (i : Nat) s b, is[i]? = some s → bs[i]? = some b → (upd H3 D (.dK (putK kvs2 k z))) b = some (O s))) _ (fun σ2 H3 hh => hh) (List.mem_of_getElem? ey) (by rw [← eH1]; exact s2) hq fun b H3 s3 hb0 hb => ?_
    have lz : (((is.take n).map nm).zip bs).length = n := by rw [List.length_zip, List.length_map, List.length_take, lb]; omega
    have lt : ((is.take n).map nm).length = n := by rw [List.length_map, List.length_take]; omega
    have nbD : b ≠ D := fun e => by rw [e, hD2] at hb0; cases hb0
    have nDb : ∀ c ∈ bs, c ≠ D := fun c hc e => (List.nodup_cons.mp nd2).1 (e ▸ hc)
    have new : (Sum.inr (nm y) : Key) ∉ (mvK ((is.take n).map nm) bs).map (·.1) := by
      rw [mvK_keys (by rw [lb, lt])]
      intro h
      obtain ⟨z, hz, e⟩ := List.mem_map.mp h
      obtain rfl : z = nm y := Sum.inr.inj e
      have t := take_next' ey
      have nt : ((is.take (n + 1)).map nm).Nodup := List.Pairwise.sublist ((List.take_sublist _ _).map nm) ndn
      rw [t, List.map_append] at nt
      exact (List.nodup_append.mp nt).2.2 _ hz _ (List.mem_singleton.mpr rfl) rfl
    refine ⟨_, Sum.inr (nm y), rfl, s3 _ _ hD2, ?_, fun c o e => ?_, bs ++ [b], by rw [List.length_append, lb]; rfl, ?_, ?_, ?_, ?_⟩
    · rw [List.length_map, lz]
      exact small1000 (by omega)
    · rw [upd_ne (ne_of_none e hD)]
      exact s3 _ _ (s2 _ _ e)
    · have nb : b ∉ bs := fun hc => by
        obtain ⟨i, hi⟩ := List.mem_iff_getElem?.mp hc
        have hlt := (List.getElem?_eq_some_iff.mp hi).1
        have := ob i is[i] b (List.getElem?_eq_getElem (by omega)) hi
        rw [hb0] at this
        cases this
      rw [← List.cons_append]
      exact List.nodup_append.mpr ⟨nd2, by simp, fun c hc d hd e => by
        rw [List.mem_singleton.mp hd] at e
        rcases List.mem_cons.mp hc with h | h
        · exact nbD (e.symm.trans h)
        · exact nb (e ▸ h)⟩
    · intro c hc
      rcases List.mem_append.mp hc with h | h
      · exact fr c h
      · rw [List.mem_singleton.mp h]
        cases e : H1 b with
        | none => rfl
        | some o => rw [s2 _ _ e] at hb0; cases hb0
    · rw [upd_same, putK_new new, take_next' ey, List.map_append]
      unfold mvK
      rw [List.zip_append (by rw [lt, lb]), List.map_append]
      rfl
    · intro i s c h1' h2'
      by_cases hi : i < n
      · rw [List.getElem?_append_left (by omega)] at h2'
        rw [upd_ne (nDb c (List.mem_of_getElem? h2'))]
        exact s3 _ _ (ob i s c h1' h2')
      · rw [List.getElem?_append_right (by omega)] at h2'
        have hi2 : i = n := by
          have := (List.getElem?_eq_some_iff.mp h2').1
          rw [List.length_singleton] at this
          omega
        rw [hi2, lb, Nat.sub_self] at h2'
        obtain rfl : b = c := Option.some.inj h2'
        rw [hi2, ey] at h1'
        obtain rfl := Option.some.inj h1'
        rw [upd_ne nbD]
        exact hb
  · rintro H2 ⟨s2, bs, lb, nd2, fr, hD2, ob⟩
    rw [lk] at lb
    rw [lk, List.take_length] at hD2
    have hdl : H2 d = some (.frz od (.dT kvs)) := s2 _ _ hfd
    have ne1 : ∀ b, H1 b = none → b ≠ d := fun b h e => by rw [e, hfd] at h; cases h
    have fr0 : ∀ b, H1 b = none → H b = none := fun b h => by
      have z := ne1 b h
      rw [eH1, upd_ne z] at h
      exact h
    refine ⟨hdl, k D bs _ (fun b o e => ?_) (fr0 D hD) lb nd2 (fun b hb => fr0 b (fr b hb)) ((upd_ne nDd).trans hD2) fun i s b h1 h2 => (upd_ne (ne1 b (fr b (List.mem_of_getElem? h2)))).trans (ob i s b h1 h2)⟩
    by_cases hb : b = d
    · rw [hb] at e ⊢
      rw [hd] at e
      rw [upd_same]; exact e
    · rw [upd_ne hb]
      refine s2 _ _ ?_
      rw [eH1, upd_ne hb]
      exact e
end
theorem prsG_nodup {sts sts2 : List Str} (n1 : sts.Nodup) (n2 : sts2.Nodup) : (prsG sts sts2).Nodup := by
  unfold prsG
  induction sts with
  | nil => exact .nil
  | cons a L ih =>
    rw [List.flatMap_cons]
    rw [List.nodup_cons] at n1
    refine List.nodup_append.mpr ⟨List.pairwise_map.mpr (List.Pairwise.imp (fun ne e => ne (congrArg Prod.snd e)) n2), ih n1.2, fun p hp q hq e => ?_⟩
    obtain ⟨b, _, rfl⟩ := List.mem_map.mp hp
    obtain ⟨c, hc, h⟩ := List.mem_flatMap.mp hq
    obtain ⟨b2, _, rfl⟩ := List.mem_map.mp h
    have e1 : a = c := congrArg Prod.fst e
    rw [← e1] at hc
    exact n1.1 hc
theorem prsG_mem {sts sts2 : List Str} {p : Str × Str} : p ∈ prsG sts sts2 ↔ p.1 ∈ sts ∧ p.2 ∈ sts2 := by
  unfold prsG
  constructor
  · intro h
    obtain ⟨a, ha, h⟩ := List.mem_flatMap.mp h
    obtain ⟨b, hb, rfl⟩ := List.mem_map.mp h
    exact ⟨ha, hb⟩
  · rintro ⟨h1, h2⟩
    exact List.mem_flatMap.mpr ⟨p.1, h1, List.mem_map.mpr ⟨p.2, h2, rfl⟩⟩
/-- the word of a pair, the pair of a word -/
def wordG (sts sts2 : List Str) (x y : Str) : Str := stW ((prsG sts sts2).idxOf (x, y))
def pairG (sts sts2 : List Str) (z : Str) : Str × Str := ((prsG sts sts2)[(cws (sts.length * sts2.length)).idxOf z]?).getD (⟨#[]⟩, ⟨#[]⟩)
def bothT (sts sts2 : List Str) (t t2 : Str → Str → Str) (z o : Str) : Str := wordG sts sts2 (t (pairG sts sts2 z).1 o) (t2 (pairG sts sts2 z).2 o)
theorem idx_atG {α : Type} [BEq α] [LawfulBEq α] {L : List α} (nd : L.Nodup) {i : Nat} {s : α} (h : L[i]? = some s) : L.idxOf s = i := by
  obtain ⟨hi, e⟩ := List.getElem?_eq_some_iff.mp h
  subst e
  exact nd.idxOf_getElem i hi
section
variable {sts sts2 : List Str} (n1 : sts.Nodup) (n2 : sts2.Nodup) (few : sts.length * sts2.length < 64)
include n1 n2 few
theorem wordG_at {i : Nat} {p : Str × Str} (h : (prsG sts sts2)[i]? = some p) : wordG sts sts2 p.1 p.2 = stW i := by
  unfold wordG
  rw [idx_atG (prsG_nodup n1 n2) h]
theorem words_map : (prsG sts sts2).map (fun p => wordG sts sts2 p.1 p.2) = cws (sts.length * sts2.length) := by
  refine List.ext_getElem? fun i => ?_
  rw [List.getElem?_map]
  by_cases hi : i < sts.length * sts2.length
  · obtain ⟨p, e⟩ : ∃ p, (prsG sts sts2)[i]? = some p := ⟨_, List.getElem?_eq_getElem (by rw [prsG_len]; exact hi)⟩
    rw [stW_get (by omega) hi, e]
    exact congrArg some (wordG_at n1 n2 few e)
  · rw [List.getElem?_eq_none (by rw [prsG_len]; omega), List.getElem?_eq_none (by rw [cws_len _ (by omega)]; omega)]; rfl
theorem pairG_word {x y : Str} (hx : x ∈ sts) (hy : y ∈ sts2) : pairG sts sts2 (wordG sts sts2 x y) = (x, y) := by
  obtain ⟨i, hi⟩ := List.mem_iff_getElem?.mp (prsG_mem.mpr ⟨hx, hy⟩ : (x, y) ∈ prsG sts sts2)
  have e := wordG_at n1 n2 few hi
  have hlt := (List.getElem?_eq_some_iff.mp hi).1
  rw [prsG_len] at hlt
  unfold pairG
  rw [show wordG sts sts2 x y = stW i from e, idx_at (cws_nd (by omega)) (stW_get (by omega) hlt), hi]
  rfl
theorem wordG_mem {x y : Str} (hx : x ∈ sts) (hy : y ∈ sts2) : wordG sts sts2 x y ∈ cws (sts.length * sts2.length) := by
  rw [← words_map n1 n2 few]
  exact List.mem_map.mpr ⟨(x, y), prsG_mem.mpr ⟨hx, hy⟩, rfl⟩
theorem pairG_mem {z : Str} (hz : z ∈ cws (sts.length * sts2.length)) : (pairG sts sts2 z).1 ∈ sts ∧ (pairG sts sts2 z).2 ∈ sts2 := by
  rw [← words_map n1 n2 few] at hz
  obtain ⟨p, hp, rfl⟩ := List.mem_map.mp hz
  obtain ⟨h1, h2⟩ := prsG_mem.mp hp
  rw [pairG_word n1 n2 few h1 h2]
  exact ⟨h1, h2⟩
end
theorem bothMV {sts sts2 ds : List Str} {t t2 : Str → Str → Str} (m1 : MV sts ds t) (m2 : MV sts2 ds t2) (few : sts.length * sts2.length < 64) : MV (ascOf (cws (sts.length * sts2.length))) ds (bothT sts sts2 t t2) where
  asc := ascOf_asc (cws_nd (by omega))
  ne := fun e => by
    have p := ascOf_perm (cws (sts.length * sts2.length))
    have l := p.length_eq
    rw [e, cws_len _ (by omega)] at l
    have : 0 < sts.length * sts2.length := Nat.mul_pos (List.length_pos_iff.mpr m1.ne) (List.length_pos_iff.mpr m2.ne)
    simp at l
    omega
  few := by rw [(ascOf_perm _).length_eq, cws_len _ (by omega)]; exact few
  wd := fun s hs => cws_wd (by omega) s ((ascOf_perm _).mem_iff.mp hs)
  dsc := m1.dsc
  dne := m1.dne
  dfew := m1.dfew
  dwd := m1.dwd
  cl := fun s hs o ho => by
    have hs := (ascOf_perm _).mem_iff.mp hs
    obtain ⟨h1, h2⟩ := pairG_mem m1.asc.nodup m2.asc.nodup few hs
    exact (ascOf_perm _).mem_iff.mpr (wordG_mem m1.asc.nodup m2.asc.nodup few (m1.cl _ h1 o ho) (m2.cl _ h2 o ho))
end KT
set_option Elab.async false
set_option linter.all false
set_option maxRecDepth 100000
set_option maxHeartbeats 4000000
set_option pp.maxSteps 900
namespace KT
open PySem L2 PyProof.Rows DTp TxS DKq
section
variable {P : Program} {w : World} {K : PySem.W.Frag} {mg : Str → Option Value} {base : Heap} {G : Addr}
def spBothS (G : Addr) : Sp := fun vs H Q _ => ∃ (p q : Addr) (sts sts2 ds : List Str) (t t2 : Str → Str → Str), vs = [.ref p, .ref q] ∧ GoE G H p sts ds t ∧ GoE G H q sts2 ds t2 ∧ sts.length * sts2.length < 64 ∧
  ∀ x H', GoE G H' x (ascOf (cws (sts.length * sts2.length))) ds (bothT sts sts2 t t2) → H x = none → L2.Same H H' → Q (.ref x) H'
abbrev nBothS : List Str := ["one", "other", "names", "words", "moves", "beside", "word", "first", "second", "deed"]
theorem scBothS : FnScope nBothS ["one", "other"] (defScope pBothS) := ⟨rfl, rfl, rfl, by decide +kernel, rfl, by decide +kernel, by decide +kernel⟩
abbrev scBs : Scope := { kind := .function, names := [(".0", .local), ("first", .cell), ("second", .cell), ("beside", .cell), ("moves", .cell), ("one", .cell), ("words", .cell)], isGenerator := false, isCoroutine := false }
structure BsC (P : Program) (w : World) (K : PySem.W.Frag) (mg : Str → Option Value) (base : Heap) (G : Addr) : Prop where
  bn : Cee P w K mg base 3 "both_names" ["one", "other"] (spBothN G)
  mov : Mee P w K mg base G 1 "moves" ["self"] (spGMoves G)
  ded : Mee P w K mg base G 2 "deeds" ["self"] (spGDeeds G)
  gmk : GMk P w K mg base G
theorem ok_bothS {g : Addr} {fd : FuncData} (F : Fun K "both_stores" "both_stores" pBothS g fd) (T : GTx K mg G) (M : BsC P w K mg base G) : FnOk P w K mg base CX0 6 g fd ["one", "other"] (spBothS G) := by
  refine F.ok scBothS (fun vs H Q E h => ?_) (fun cdv A outer s H vs Q E hr h => ?_)
  · obtain ⟨p, q, sts, sts2, ds, t, t2, rfl, _⟩ := h
    rfl
  · obtain ⟨p, q, sts, sts2, ds, t, t2, rfl, g1, g2, few, k⟩ := h
    have nd := scBothS.nd
    refine ⟨_, pss_cons (ps_set (i := 2) nd rfl (Or.inr rfl) (pe_c M.bn hr rfl (pa_cons (pv 0) (pa_cons (pv 1) pa_nil))))
      (pss_cons (ps_set (i := 3) nd rfl (Or.inr rfl) (pe_lock (GC.pe_dcT (own := [("word", 6)]) (g := gName 6) (tt := tYes) (tk := tDGet (tVar 2) (tVar 6)) (tv := tVar 6) hr.units0 rfl nd (pi_keys (pv 2))
          (blkOk_by (own := [("word", 6)]) (N := nBothS) (sc := defScope pBothS) (by decide +kernel)) (fun _ _ _ _ _ => pg_name (i := 6) nd rfl (Or.inl rfl)) (fun _ _ _ _ _ => pts_nil) GC.cl0 trivial (fun _ _ _ _ _ => pe_dget (hu_of hr) (pv 2) (pv 6) (fun _ _ => rfl)) (fun _ _ _ _ _ => pv 6))))
      (pss_cons (ps_set (i := 4) nd rfl (Or.inr rfl) (pe_m0 M.mov T.cl hr (pv 0)))
      (pss_cons (ps_set (i := 5) nd rfl (Or.inr rfl) (pe_m0 M.mov T.cl hr (pv 1)))
      (pss_one (ps_ret (pe_store M.gmk T.mgG hr rfl (pa_cons (pe_lock (GC.pe_dcK (own := [("first", 7), ("second", 8)]) (g := gXY K 7 8) (tt := tYes) (tk := tDGet (tVar 3) (tTup (tCons (tVar 7) (tCons (tVar 8) tNil))))
          (tv := GC.tCo (fun _ => .dK []) ⟨_, _, [], iList K (tMeth G (Str.ofString "deeds") (spGDeeds G) [] E0 (tVar 0) tNil), gName 9, tYes, [9]⟩ [] (GC.emK (tVar 9) (tDGet (tVar 3) (tTup (tCons (tDGet (tDGet (tVar 4) (tVar 7)) (tVar 9)) (tCons (tDGet (tDGet (tVar 5) (tVar 8)) (tVar 9)) tNil)))))) rfl nd (pi_keys (pv 3))
          (blkOk_by (own := [("first", 7), ("second", 8)]) (N := nBothS) (sc := defScope pBothS) (by decide +kernel)) (fun _ _ _ _ _ => pg_tup rfl (pgs_cons (pg_name (i := 7) nd rfl (Or.inr rfl)) (pgs_cons (pg_name (i := 8) nd rfl (Or.inr rfl)) pgs_nil))) (fun _ _ _ _ _ => pts_nil) GC.cl0 trivial
          (fun _ _ _ _ _ => pe_dget (hu_of hr) (pv 3) (pe_tup (pa_cons (pv 7) (pa_cons (pv 8) pa_nil))) (fun _ _ => rfl))
          (fun _ _ _ _ _ => GC.pe_dcK (own := [("deed", 9)]) (g := gName 9) (tt := tYes) (tk := tVar 9) (tv := tDGet (tVar 3) (tTup (tCons (tDGet (tDGet (tVar 4) (tVar 7)) (tVar 9)) (tCons (tDGet (tDGet (tVar 5) (tVar 8)) (tVar 9)) tNil)))) rfl nd (pi_list (pe_m0 M.ded T.cl hr (pv 0)))
            (blkOk_by (own := [("deed", 9)]) (N := nBothS) (sc := scBs) (by decide +kernel)) (fun _ _ _ _ _ => pg_name (i := 9) nd rfl (Or.inl rfl)) (fun _ _ _ _ _ => pts_nil) GC.cl0 trivial (fun _ _ _ _ _ => pv 9)
            (fun _ _ _ _ _ => pe_dget (hu_of hr) (pv 3) (pe_tup (pa_cons (pe_dget (hu_of hr) (pe_dget (hu_of hr) (pv 4) (pv 7) (fun _ _ => rfl)) (pv 9) (fun _ _ => rfl)) (pa_cons (pe_dget (hu_of hr) (pe_dget (hu_of hr) (pv 5) (pv 8) (fun _ _ => rfl)) (pv 9) (fun _ _ => rfl)) pa_nil))) (fun _ _ => rfl))))) pa_nil))))))), ?_⟩
    obtain ⟨dx, m, bs, g1'⟩ := id g1
    obtain ⟨dx2, m2, bs2, g2'⟩ := id g2
    have mv1 := g1'.mv
    have mv2 := g2'.mv
    have n1 := mv1.asc.nodup
    have n2 := mv2.asc.nodup
    obtain ⟨n, en⟩ : ∃ n, n = sts.length * sts2.length := ⟨_, rfl⟩
    have lw : (cws n).length = n := cws_len _ (by omega)
    have wmap := words_map n1 n2 few
    rw [← en] at wmap
    refine ⟨_, rfl, _, rfl, p, q, sts, sts2, ds, t, t2, rfl, g1, g2, few, fun nq ts H1 s1 hnq0 hnq pr1 => ?_⟩
    rw [← en] at hnq
    have lts : ts.length = n := by rw [Paired.length pr1, prsG_len, en]
    refine at_name (σ' := [some (.ref p), some (.ref q), some (.ref nq), none, none, none, none, none, none, none]) rfl ?_
    refine dcT_strs (key2 := fun z => keyP (pairG sts sts2 z)) (val2 := fun z => .str z) (xs := cws n) (kvs := mvK (cws n) ts) (fun od R hh => ⟨_, rfl, hh⟩) hnq (mvK_keys (by rw [lts, lw])) (by omega) ?_ ?_
    · intro x od H2 R Cn kc hx s2 kR
      refine at_name (σ' := [some (.ref p), some (.ref q), some (.ref nq), none, none, none, some (.str x), none, none, none]) rfl ⟨rfl, kc _ _ ?_⟩
      obtain ⟨i, hi⟩ := List.mem_iff_getElem?.mp hx
      have hlt := (List.getElem?_eq_some_iff.mp hi).1
      rw [lw] at hlt
      obtain ⟨tt, ht⟩ : ∃ tt, ts[i]? = some tt := ⟨_, List.getElem?_eq_getElem (by omega)⟩
      obtain ⟨pp, hp⟩ : ∃ pp, (prsG sts sts2)[i]? = some pp := ⟨_, List.getElem?_eq_getElem (by rw [prsG_len, ← en]; exact hlt)⟩
      have ex : x = wordG sts sts2 pp.1 pp.2 := by
        rw [wordG_at n1 n2 few hp]
        rw [stW_get (by omega) hlt] at hi
        exact (Option.some.inj hi).symm
      have mp := prsG_mem.mp (List.mem_of_getElem? hp)
      have ep : pairG sts sts2 x = pp := by rw [ex]; exact pairG_word n1 n2 few mp.1 mp.2
      have htt : H1 tt = some (.tup [.str pp.1, .str pp.2]) := paired_nth pr1 i tt pp ht hp
      have ntn : tt ≠ nq := ne_of htt hnq (by intro z; cases z)
      have htt2 := s2 _ _ ((upd_ne ntn).trans htt)
      have dg : DGet H2 nq (.str x) (some (.ref tt)) := .inl ⟨_, Sum.inr x, .inr ⟨od, s2 _ _ upd_same⟩, rfl, (valV_mem (by rw [mvK_keys (by rw [lts, lw])]; exact inr_nodup (cws_nd (by omega))) (List.mem_map.mpr ⟨(x, tt), List.mem_of_getElem? (List.getElem?_zip_eq_some.mpr ⟨hi, ht⟩), rfl⟩)).symm⟩
      refine ⟨_, rfl, _, rfl, nq, _, rfl, dg, _, rfl, kR tt _ (fun _ _ e => e) ?_⟩
      rw [ep, htt2]; rfl
    intro wq H2 s2 hwq0 hwq
    have ewq : mergeT [] ((cws n).map fun z => (keyP (pairG sts sts2 z), V.str z)) = (prsG sts sts2).map fun pp => (keyP pp, valW (wordG sts sts2) pp) := by
      have e1 : ((cws n).map fun z => (keyP (pairG sts sts2 z), V.str z)) = (prsG sts sts2).map fun pp => (keyP pp, valW (wordG sts sts2) pp) := by
        rw [← wmap, List.map_map]
        refine List.map_congr_left fun pp hpp => ?_
        have mp := prsG_mem.mp hpp
        show (keyP (pairG sts sts2 (wordG sts sts2 pp.1 pp.2)), V.str (wordG sts sts2 pp.1 pp.2)) = _
        rw [pairG_word n1 n2 few mp.1 mp.2]
        rfl
      rw [e1, mergeT_nd _ _ (by
        rw [List.nil_append, List.map_map]
        exact List.pairwise_map.mpr (List.Pairwise.imp (fun ne e => ne (keyP_inj _ _ e)) (prsG_nodup n1 n2))), List.nil_append]
    rw [ewq] at hwq
    obtain ⟨wk, ewk⟩ : ∃ wk, wk = (prsG sts sts2).map fun pp => (keyP pp, valW (wordG sts sts2) pp) := ⟨_, rfl⟩
    rw [← ewk] at hwq
    have wget : ∀ {x y : Str}, x ∈ sts → y ∈ sts2 → valV wk (keyP (x, y)) = some (.str (wordG sts sts2 x y)) := fun {x y} hx hy => by
      rw [ewk]
      exact valV_mem (by rw [List.map_map]; exact List.pairwise_map.mpr (List.Pairwise.imp (fun ne e => ne (keyP_inj _ _ e)) (prsG_nodup n1 n2))) (List.mem_map.mpr ⟨(x, y), prsG_mem.mpr ⟨hx, hy⟩, rfl⟩)
    refine at_name (σ' := [some (.ref p), some (.ref q), some (.ref nq), some (.ref wq), none, none, none, none, none, none]) rfl ?_
    have s02 := s1.trans s2
    have g1b := g1'.mono s02
    refine ⟨_, rfl, p, dx, _, rfl, g1b.st.ob, gflds_no _ (by decide +kernel), p, dx, m, sts, bs, _, ds, rfl, g1b.st, mv1.ok, fun mq bm H3 s3 hmq0 hbm mvm => ?_⟩
    refine at_name (σ' := [some (.ref p), some (.ref q), some (.ref nq), some (.ref wq), some (.ref mq), none, none, none, none, none]) rfl ?_
    have s03 := s02.trans s3
    have g2b := g2'.mono s03
    refine ⟨_, rfl, q, dx2, _, rfl, g2b.st.ob, gflds_no _ (by decide +kernel), q, dx2, m2, sts2, bs2, _, ds, rfl, g2b.st, mv2.ok, fun oq bo H4 s4 hoq0 hbo mvo => ?_⟩
    refine at_name (σ' := [some (.ref p), some (.ref q), some (.ref nq), some (.ref wq), some (.ref mq), some (.ref oq), none, none, none, none]) rfl ?_
    have s04 := s03.trans s4
    have mvm4 := mvm.mono s4
    have hwq4 := s4 _ _ (s3 _ _ hwq)
    have g1c := g1'.mono s04
    show tLockE (GC.tCo (fun _ => .dK []) ⟨_, _, [], iKeys (tVar 3), gXY K 7 8, tYes, [7, 8]⟩ [] (GC.emK _ _)) _ _ _
    refine dcR_keysT (key := keyP) (val := valW (wordG sts sts2)) (fun pp => wordG sts sts2 pp.1 pp.2) (fun pp => .dK (dkv (ds.map fun o => (o, wordG sts sts2 (t pp.1 o) (t2 pp.2 o))))) (is := prsG sts sts2) (kvs := wk) (fun od R hh => ⟨_, rfl, hh⟩) hwq4 ewk (by rw [prsG_len]; omega) (by rw [wmap]; exact cws_nd (by omega)) ?_ ?_
    · intro pp tq od H5 R Cn kc hpp s5 htq kR
      obtain ⟨mp1, mp2⟩ := prsG_mem.mp hpp
      refine ⟨tq, _, rfl, SqT.of htq, rfl, _, _, rfl, ?_⟩
      refine at_name (σ' := [some (.ref p), some (.ref q), some (.ref nq), some (.ref wq), some (.ref mq), some (.ref oq), none, some (.str pp.1), none, none]) rfl ?_
      refine ⟨_, _, rfl, ?_⟩
      refine at_name (σ' := [some (.ref p), some (.ref q), some (.ref nq), some (.ref wq), some (.ref mq), some (.ref oq), none, some (.str pp.1), some (.str pp.2), none]) rfl ⟨rfl, rfl, kc _ _ ?_⟩
      have hwq5 : H5 wq = some (.frz od (.dT wk)) := s5 _ _ upd_same
      refine ⟨_, rfl, _, rfl, _, rfl, (by show 2 ≤ sizeLine; decide), fun tt htt0 => ?_⟩
      have s6 := Same.new (H := H5) (o := .tup [.str pp.1, .str pp.2]) htt0
      have htt : upd H5 tt (.tup [.str pp.1, .str pp.2]) tt = some (.tup ((keyP pp).map kV)) := upd_same
      generalize upd H5 tt (.tup [.str pp.1, .str pp.2]) = H6 at s6 htt ⊢
      have dg : DGet H6 wq (.ref tt) (some (.str (wordG sts sts2 pp.1 pp.2))) := .inr ⟨wk, keyP pp, tt, .inr ⟨od, s6 _ _ hwq5⟩, rfl, htt, (wget mp1 mp2).symm⟩
      refine ⟨wq, _, rfl, dg, ?_⟩
      have nw : ∀ {a : Addr} {o : HO}, H4 a = some o → o ≠ .dT wk → H6 a = some o := fun {a o} e ne => s6 _ _ (s5 _ _ ((upd_ne (ne_of e hwq4 ne)).trans e))
      have keepG : ∀ {a : Addr} {o : HO}, H4 a = some o → (∀ z, o ≠ .dT z) → H6 a = some o := fun e ne => nw e (ne _)
      have g1d : GoAt G H6 p dx m sts bs ds t := ⟨⟨keepG g1c.st.ob (fun z h => by cases h), ⟨keepG g1c.st.mv.at' (fun z h => by cases h), g1c.st.mv.len, g1c.st.mv.nda, fun i s b h1 h2 => keepG (g1c.st.mv.inn i s b h1 h2) (fun z h => by cases h)⟩⟩, mv1⟩
      have mvm6 : MvAt H6 mq sts bm (rowT ds t) := ⟨keepG mvm4.at' (fun z h => by cases h), mvm4.len, mvm4.nda, fun i s b h1 h2 => keepG (mvm4.inn i s b h1 h2) (fun z h => by cases h)⟩
      have mvo6 : MvAt H6 oq sts2 bo (rowT ds t2) := ⟨keepG mvo.at' (fun z h => by cases h), mvo.len, mvo.nda, fun i s b h1 h2 => keepG (mvo.inn i s b h1 h2) (fun z h => by cases h)⟩
      have hwq6 : H6 wq = some (.frz od (.dT wk)) := s6 _ _ hwq5
      refine dcS_list (K := K) (xs := ds) (key := fun y => y) (val := fun o => .str (wordG sts sts2 (t pp.1 o) (t2 pp.2 o))) (fun _ H' => L2.Same H6 H') (by have := mv1.dfew; omega) ?_ ?_ ?_
      · intro R2 hR2
        exact ⟨_, rfl, p, dx, _, rfl, g1d.st.ob, gflds_no _ (by decide +kernel), p, sts, ds, t, rfl, ⟨dx, m, bs, g1d⟩, fun l H7 s7 hl0 hl => hR2 l H7 hl s7⟩
      · intro l o H7 H8 R3 Cn3 kc3 ho s7 s8 kR3
        refine at_name (σ' := [some (.ref p), some (.ref q), some (.ref nq), some (.ref wq), some (.ref mq), some (.ref oq), none, some (.str pp.1), some (.str pp.2), some (.str o)]) rfl ⟨rfl, kc3 _ _ ?_⟩
        have s78 : L2.Same H6 H8 := L2.Same.trans s7 s8
        obtain ⟨b1, v1, hb1, _⟩ := mvK_get (mvm6.mono s78).inns n1 mp1
        obtain ⟨b2, v2, hb2, _⟩ := mvK_get (mvo6.mono s78).inns n2 mp2
        have d1 := DGet.k (k := Sum.inr pp.1) (mvm6.mono s78).at'
        have d2 := DGet.k (k := Sum.inr pp.2) (mvo6.mono s78).at'
        rw [show valV _ _ = _ from v1] at d1
        rw [show valV _ _ = _ from v2] at d2
        have e1 := DGet.k (k := Sum.inr o) hb1
        have e2 := DGet.k (k := Sum.inr o) hb2
        rw [valV_dkv (by rw [rowT_keys]; exact mv1.dsc.nodup) (by rw [rowT_keys]; exact ho), kof_rowT mv1.dsc.nodup t pp.1 ho] at e1
        rw [valV_dkv (by rw [rowT_keys]; exact mv1.dsc.nodup) (by rw [rowT_keys]; exact ho), kof_rowT mv1.dsc.nodup t2 pp.2 ho] at e2
        refine ⟨_, rfl, _, rfl, _, rfl, _, rfl, mq, _, rfl, d1, _, rfl, b1, _, rfl, e1, ?_⟩
        refine ⟨_, rfl, _, rfl, oq, _, rfl, d2, _, rfl, b2, _, rfl, e2, (by show 2 ≤ sizeLine; decide), fun tu htu0 => ?_⟩
        have s9 := Same.new (H := H8) (o := .tup [.str (t pp.1 o), .str (t2 pp.2 o)]) htu0
        have htu : upd H8 tu (.tup [.str (t pp.1 o), .str (t2 pp.2 o)]) tu = some (.tup ((keyP (t pp.1 o, t2 pp.2 o)).map kV)) := upd_same
        generalize upd H8 tu (.tup [.str (t pp.1 o), .str (t2 pp.2 o)]) = H9 at s9 htu ⊢
        have dg3 : DGet H9 wq (.ref tu) (some (.str (wordG sts sts2 (t pp.1 o) (t2 pp.2 o)))) := .inr ⟨wk, keyP (t pp.1 o, t2 pp.2 o), tu, .inr ⟨od, s9 _ _ (s78 _ _ hwq6)⟩, rfl, htu, (wget (mv1.cl _ mp1 o ho) (mv2.cl _ mp2 o ho)).symm⟩
        exact ⟨wq, _, rfl, dg3, kR3 _ s9⟩
      · intro qq l H7 H8 s7 s8 hq0 hq
        rw [mergeK_strs mv1.dsc.nodup] at hq
        have s78 : L2.Same H6 H8 := L2.Same.trans s7 s8
        refine kR qq H8 (fun b o e => s78 _ _ (s6 _ _ e)) ?_ ?_
        · cases e : H5 qq with
          | none => rfl
          | some o => rw [s7 _ _ (s6 _ _ e)] at hq0; cases hq0
        · rw [hq]
          unfold dkv
          rw [List.map_map]; rfl
    · intro Dq bd H5 s5 hDq0 lb nda fr hDq ob
      rw [wmap] at hDq
      have mvD : MvAt H5 Dq (cws n) bd (rowT ds (bothT sts sts2 t t2)) := by
        refine ⟨hDq, by rw [lb, prsG_len, lw, en], nda, fun i z b h1 h2 => ?_⟩
        obtain ⟨pp, hp⟩ : ∃ pp, (prsG sts sts2)[i]? = some pp := ⟨_, List.getElem?_eq_getElem (by have := (List.getElem?_eq_some_iff.mp h2).1; omega)⟩
        have ez : z = wordG sts sts2 pp.1 pp.2 := by
          have hlt := (List.getElem?_eq_some_iff.mp h1).1
          rw [lw] at hlt
          rw [wordG_at n1 n2 few hp]
          rw [stW_get (by omega) hlt] at h1
          exact (Option.some.inj h1).symm
        have mp := prsG_mem.mp (List.mem_of_getElem? hp)
        rw [ob i pp b hp h2]
        unfold rowT bothT
        rw [ez, pairG_word n1 n2 few mp.1 mp.2]
      have mvB := bothMV mv1 mv2 few
      rw [← en] at mvB k
      have hT : MvT H5 Dq (ascOf (cws n)) ds (bothT sts sts2 t t2) := ⟨cws n, bd, _, mvD, (ascOf_perm _).symm, fun s _ => ⟨by rw [rowT_keys], fun o ho => kof_rowT mv1.dsc.nodup _ s ho⟩⟩
      exact mk_storeT hT mvB fun x H6 gx hx0 s6 => k x H6 gx ((s04.trans s5).free hx0) ((s04.trans s5).trans s6)
end
end KT
set_option Elab.async false
set_option linter.all false
set_option maxRecDepth 100000
set_option maxHeartbeats 4000000
set_option pp.maxSteps 900
namespace KT
open PySem L2 PyProof.Rows DTp TxS DKq
section
variable {K : PySem.W.Frag}
/-- what a list of pairs of names and new objects holds -/
def Nw {ι : Type} (nm : ι → Str) (O : ι → HO) (H0 H' : Hp) (D : Addr) (xs : List ι) : Prop := ∃ ts bs : List Addr, H' D = some (.lst (ts.map V.ref)) ∧ bs.length = xs.length ∧ ts.length = xs.length ∧ (D :: bs).Nodup ∧ (∀ b ∈ bs, H0 b = none) ∧
  ∀ (i : Nat) x, xs[i]? = some x → ∃ t b, ts[i]? = some t ∧ bs[i]? = some b ∧ H' t = some (.tup [.str (nm x), .ref b]) ∧ H' b = some (O x)
theorem Nw.nil {ι : Type} {nm : ι → Str} {O : ι → HO} {H0 H' : Hp} {D : Addr} (h : H' D = some (.lst [])) : Nw nm O H0 H' D [] := ⟨[], [], h, rfl, rfl, by simp, by simp, by simp⟩
theorem Nw.snoc {ι : Type} {nm : ι → Str} {O : ι → HO} {H0 H2 H3 : Hp} {D t b : Addr} {xs : List ι} {x : ι} (h : Nw nm O H0 H2 D xs) (hO : ∀ x l, O x ≠ .lst l) (s02 : ∀ c, H2 c = none → H0 c = none) (s : L2.Same H2 H3) (hb0 : H2 b = none) (hb : H3 b = some (O x)) (ht : H3 t = some (.tup [.str (nm x), .ref b])) :
    ∃ acc, H3 D = some (.lst acc) ∧ acc.length = xs.length ∧ Nw nm O H0 (upd H3 D (.lst (acc ++ [.ref t]))) D (xs ++ [x]) := by
  obtain ⟨ts, bs, hD, lb, lt, nd, fr, ob⟩ := h
  have hD3 := s _ _ hD
  have nbD : b ≠ D := fun e => by rw [e, hD] at hb0; cases hb0
  refine ⟨_, hD3, by rw [List.length_map, lt], ts ++ [t], bs ++ [b], by rw [upd_same, List.map_append]; rfl, by rw [List.length_append, List.length_append, lb]; rfl, by rw [List.length_append, List.length_append, lt]; rfl, ?_, ?_, ?_⟩
  · have nb : b ∉ bs := fun hc => by
      obtain ⟨i, hi⟩ := List.mem_iff_getElem?.mp hc
      have hlt := (List.getElem?_eq_some_iff.mp hi).1
      obtain ⟨y, hy⟩ : ∃ y, xs[i]? = some y := ⟨_, List.getElem?_eq_getElem (by omega)⟩
      obtain ⟨_, c, _, hc2, _, hc3⟩ := ob i y hy
      rw [hi] at hc2
      obtain rfl := Option.some.inj hc2
      rw [hb0] at hc3; cases hc3
    rw [← List.cons_append]
    exact List.nodup_append.mpr ⟨nd, by simp, fun c hc d hd e => by
      rw [List.mem_singleton.mp hd] at e
      rcases List.mem_cons.mp hc with h | h
      · exact nbD (e.symm.trans h)
      · exact nb (e ▸ h)⟩
  · intro c hc
    rcases List.mem_append.mp hc with h | h
    · exact fr c h
    · rw [List.mem_singleton.mp h]; exact s02 _ hb0
  · intro i y hy
    by_cases hi : i < xs.length
    · rw [List.getElem?_append_left hi] at hy
      obtain ⟨t1, b1, e1, e2, e3, e4⟩ := ob i y hy
      refine ⟨t1, b1, ?_, ?_, ?_, ?_⟩
      · rw [List.getElem?_append_left (by omega)]; exact e1
      · rw [List.getElem?_append_left (by omega)]; exact e2
      · exact (upd_ne (ne_of (s _ _ e3) hD3 (fun z => nomatch z))).trans (s _ _ e3)
      · exact (upd_ne (ne_of (s _ _ e4) hD3 (hO _ _))).trans (s _ _ e4)
    · rw [List.getElem?_append_right (by omega)] at hy
      have hi2 : i - xs.length = 0 := by
        have := (List.getElem?_eq_some_iff.mp hy).1
        rw [List.length_singleton] at this
        omega
      rw [hi2] at hy
      obtain rfl := Option.some.inj hy
      have ei : i = xs.length := by omega
      refine ⟨t, b, ?_, ?_, ?_, ?_⟩
      · rw [List.getElem?_append_right (by omega), lt, ei, Nat.sub_self]; rfl
      · rw [List.getElem?_append_right (by omega), lb, ei, Nat.sub_self]; rfl
      · exact (upd_ne (ne_of ht hD3 (fun z => nomatch z))).trans ht
      · exact (upd_ne nbD).trans hb
theorem Nw.done {ι : Type} {nm : ι → Str} {O : ι → HO} {H0 H1 H' : Hp} {D : Addr} {xs : List ι} {Q : VK} (h : Nw nm O H0 H1 D xs) (ndn : (xs.map nm).Nodup) (s : L2.Same H' H1 ∨ True) (back : ∀ c o, H1 c = some o → (∀ z, o ≠ .frz z (.lst [])) → True)
    (k : ∀ q (bs : List Addr) H2, L2.Same H1 H2 → H1 q = none → bs.length = xs.length → (q :: bs).Nodup → (∀ b ∈ bs, H0 b = none) → H2 q = some (.dK (mvK (xs.map nm) bs)) → (∀ (i : Nat) x b, xs[i]? = some x → bs[i]? = some b → H2 b = some (O x)) → Q (.ref q) H2) :
    rDP K [V.ref D] H1 Q := by
  obtain ⟨ts, bs, hD, lb, lt, nd, fr, ob⟩ := h
  have lz : ts.length = ((xs.map nm).zip bs).length := by rw [List.length_zip, List.length_map, lb, lt]; omega
  refine ⟨D, ts, mvK (xs.map nm) bs, rfl, SqL.of hD, paired_of (by rw [List.length_map]; exact lz) fun i t kv h1 h2 => ?_, fun q hq0 => ?_⟩
  · have hi : i < xs.length := by
      have := (List.getElem?_eq_some_iff.mp h1).1
      omega
    obtain ⟨x, ex⟩ : ∃ x, xs[i]? = some x := ⟨_, List.getElem?_eq_getElem hi⟩
    obtain ⟨t1, b1, e1, e2, e3, e4⟩ := ob i x ex
    rw [h1] at e1
    obtain rfl := Option.some.inj e1
    have e5 : ((xs.map nm).zip bs)[i]? = some (nm x, b1) := List.getElem?_zip_eq_some.mpr ⟨by rw [List.getElem?_map, ex]; rfl, e2⟩
    rw [List.getElem?_map, e5] at h2
    obtain rfl := Option.some.inj h2
    exact SqT.of e3
  · rw [mergeK_nd _ _ (by rw [List.nil_append, mvK_keys (by rw [lb, List.length_map])]; exact inr_nodup ndn), List.nil_append]
    have nq : ∀ b ∈ bs, H1 b ≠ none := fun b hb => by
      obtain ⟨i, hi⟩ := List.mem_iff_getElem?.mp hb
      have hlt := (List.getElem?_eq_some_iff.mp hi).1
      obtain ⟨x, ex⟩ : ∃ x, xs[i]? = some x := ⟨_, List.getElem?_eq_getElem (by omega)⟩
      obtain ⟨_, b1, _, e2, _, e4⟩ := ob i x ex
      rw [hi] at e2
      obtain rfl := Option.some.inj e2
      rw [e4]; intro z; cases z
    refine k q bs _ (Same.new hq0) hq0 lb ?_ fr upd_same fun i x b h1 h2 => ?_
    · exact List.nodup_cons.mpr ⟨fun hm => nq q hm hq0, (List.nodup_cons.mp nd).2⟩
    · obtain ⟨_, b1, _, e2, _, e4⟩ := ob i x h1
      rw [h2] at e2
      obtain rfl := Option.some.inj e2
      exact (upd_ne (fun e => by rw [e, hq0] at e4; cases e4)).trans e4
/-- dict([(name, a new object) for .. in list]) -/
theorem rdR_list {ι : Type} (ev : ι → V) (nm : ι → Str) (O : ι → HO) (hO : ∀ x l, O x ≠ .lst l) {tl : TE} {g : TG} {te : TE} {vs : List Nat} {σ : L2.St} {H : Hp} {Q : VK} {xs : List ι} (few : xs.length ≤ 1000) (ndn : (xs.map nm).Nodup)
    (hl : ∀ R : VK, (∀ l H1, L2.Same H H1 → H1 l = some (.lst (xs.map ev)) → R (.ref l) H1) → tl σ H R)
    (step : ∀ x H2 (R : VK), x ∈ xs → L2.Same H H2 → (∀ t b H3, L2.Same H2 H3 → H2 b = none → H3 b = some (O x) → H3 t = some (.tup [.str (nm x), .ref b]) → R (.ref t) H3) → g (ev x) (wipe σ vs) H2 fun σ2 H3 => wipe σ2 vs = wipe σ vs ∧ te σ2 H3 R)
    (k : ∀ q (bs : List Addr) H', L2.Same H H' → H q = none → bs.length = xs.length → (q :: bs).Nodup → (∀ b ∈ bs, H b = none) → H' q = some (.dK (mvK (xs.map nm) bs)) → (∀ (i : Nat) x b, xs[i]? = some x → bs[i]? = some b → H' b = some (O x)) → Q (.ref q) H') :
    tCB (rDP K) (tCons (tLc (iList K tl) g tYes te vs) tNil) σ H Q := by
  refine hl _ fun l H1 s1 h1 => ?_
  refine ⟨l, rfl, ⟨_, SqL.of h1⟩, fun D hD => ?_⟩
  refine lc_it (walk_list (K := K) (a := l) (xs := xs.map ev)) (fun n H' => L2.Same H1 H' ∧ Nw nm O H1 H' D (xs.take n)) ?_ ?_ ?_ ?_
  · exact ⟨Same.new hD, by rw [List.take_zero]; exact .nil upd_same⟩
  · rintro i H2 _ ⟨s2, _⟩
    exact SqL.of (s2 _ _ h1)
  · rintro n v H2' H2 hn ⟨s2, nw⟩ ⟨rfl, hx⟩
    rw [List.getElem?_map] at hx
    cases ex : xs[n]? with
    | none => rw [ex] at hx; cases hx
    | some x =>
      rw [ex] at hx
      obtain rfl : ev x = v := Option.some.inj hx
      refine step x H2 _ (List.mem_of_getElem? ex) (s1.trans s2) fun t b H3 s3 hb0 hb ht => ?_
      obtain ⟨acc, hD3, la, nw3⟩ := nw.snoc hO (fun c hc => s2.free hc) s3 hb0 hb ht
      refine ⟨acc, hD3, by rw [la, List.length_take]; exact small1000 (by omega), fun c o e => ?_, ?_⟩
      · rw [upd_ne (ne_of_none e hD)]
        exact s3 _ _ (s2 _ _ e)
      · rw [take_next' ex]
        exact nw3
  · rintro H2 ⟨s2, nw⟩
    rw [List.length_map, List.take_length] at nw
    refine Nw.done nw ndn (H' := H2) (.inr trivial) (fun _ _ _ _ => trivial) fun q bs H3 s3 hq0 lb nd fr hq ob => ?_
    exact k q bs H3 (s1.trans (s2.trans s3)) ((s1.trans s2).free hq0) lb nd (fun b hb => s1.free (fr b hb)) hq ob
/-- dict([(name, a new object) for text in dict]) -/
theorem rdR_keys (nm : Str → Str) (O : Str → HO) (hO : ∀ x l, O x ≠ .lst l) {te0 : TE} {g : TG} {te : TE} {vs : List Nat} {σ : L2.St} {H : Hp} {Q : VK} {d : Addr} {kvs : List (Key × V)} {xs : List Str} (hi : ∀ od (R : VK), R (.ref d) (upd H d (.frz od (.dK kvs))) → te0 σ (upd H d (.frz od (.dK kvs))) R) (hd : H d = some (.dK kvs))
    (ek : kvs.map (·.1) = xs.map Sum.inr) (few : xs.length ≤ 1000) (ndn : (xs.map nm).Nodup) (hF : ∀ x o u, O x ≠ .frz o u)
    (step : ∀ x od H2 (R : VK), x ∈ xs → L2.Same (upd H d (.frz od (.dK kvs))) H2 → (∀ t b H3, L2.Same H2 H3 → H2 b = none → H3 b = some (O x) → H3 t = some (.tup [.str (nm x), .ref b]) → R (.ref t) H3) → g (.str x) (wipe σ vs) H2 fun σ2 H3 => wipe σ2 vs = wipe σ vs ∧ te σ2 H3 R)
    (k : ∀ q (bs : List Addr) H', L2.Same H H' → H q = none → bs.length = xs.length → (q :: bs).Nodup → (∀ b ∈ bs, H b = none) → H' q = some (.dK (mvK (xs.map nm) bs)) → (∀ (i : Nat) x b, xs[i]? = some x → bs[i]? = some b → H' b = some (O x)) → Q (.ref q) H') :
    tCB (rDP K) (tCons (tLockE (tLc (iKeys te0) g tYes te vs)) tNil) σ H Q := by
  have lk : kvs.length = xs.length := by have := congrArg List.length ek; rw [List.length_map, List.length_map] at this; exact this
  refine ⟨d, .dK kvs, hd, trivial, fun od => ?_⟩
  refine hi od _ ⟨d, od, rfl, .inl ⟨kvs, upd_same, fun D hD => ?_⟩⟩
  have nDd : D ≠ d := fun e => by rw [e, upd_same] at hD; cases hD
  refine lc_it walk_keys (fun n H' => L2.Same (upd H d (.frz od (.dK kvs))) H' ∧ Nw nm O (upd H d (.frz od (.dK kvs))) H' D (xs.take n)) ?_ ?_ ?_ ?_
  · exact ⟨Same.new hD, by rw [List.take_zero]; exact .nil upd_same⟩
  · rintro i H2 _ ⟨s2, _⟩
    exact s2 _ _ upd_same
  · rintro n v H2' H2 hn ⟨s2, nw⟩ ⟨rfl, kk, v2, hk, rfl⟩
    have hx : (kvs.map (·.1))[n]? = some kk := by rw [List.getElem?_map, hk]; rfl
    rw [ek, List.getElem?_map] at hx
    cases ex : xs[n]? with
    | none => rw [ex] at hx; cases hx
    | some x =>
      rw [ex] at hx
      obtain rfl : Sum.inr x = kk := Option.some.inj hx
      refine step x od H2 _ (List.mem_of_getElem? ex) s2 fun t b H3 s3 hb0 hb ht => ?_
      obtain ⟨acc, hD3, la, nw3⟩ := nw.snoc hO (fun c hc => s2.free hc) s3 hb0 hb ht
      refine ⟨acc, hD3, by rw [la, List.length_take]; exact small1000 (by omega), fun c o e => ?_, ?_⟩
      · rw [upd_ne (ne_of_none e hD)]
        exact s3 _ _ (s2 _ _ e)
      · rw [take_next' ex]
        exact nw3
  · rintro H1 ⟨s1, nw⟩
    rw [lk, List.take_length] at nw
    have hdl : H1 d = some (.frz od (.dK kvs)) := s1 _ _ upd_same
    have same : L2.Same H (upd H1 d (.dK kvs)) := fun b o e => by
      by_cases hb : b = d
      · rw [hb] at e ⊢
        rw [hd] at e
        rw [upd_same]; exact e
      · rw [upd_ne hb]
        exact s1 _ _ ((upd_ne hb).trans e)
    have fr0 : ∀ b, upd H d (.frz od (.dK kvs)) b = none → H b = none := fun b h => by
      have z : b ≠ d := fun e => by rw [e, upd_same] at h; cases h
      rw [upd_ne z] at h
      exact h
    have nw2 : Nw nm O H (upd H1 d (.dK kvs)) D xs := by
      obtain ⟨ts, bs, hD1, lb, lt, nd, fr, ob⟩ := nw
      refine ⟨ts, bs, (upd_ne nDd).trans hD1, lb, lt, nd, fun b hb => fr0 b (fr b hb), fun i x hx => ?_⟩
      obtain ⟨t, b, e1, e2, e3, e4⟩ := ob i x hx
      exact ⟨t, b, e1, e2, (upd_ne (ne_of e3 hdl (fun z => nomatch z))).trans e3, (upd_ne (ne_of e4 hdl (hF _ _ _))).trans e4⟩
    refine ⟨hdl, ?_⟩
    refine Nw.done nw2 ndn (H' := H1) (.inr trivial) (fun _ _ _ _ => trivial) fun q bs H3 s3 hq0 lb nd fr hq ob => ?_
    exact k q bs H3 (same.trans s3) (same.free hq0) lb nd fr hq ob
end
end KT
set_option Elab.async false
set_option linter.all false
set_option maxRecDepth 100000
set_option maxHeartbeats 4000000
set_option pp.maxSteps 900
namespace KT
open PySem L2 PyProof.Rows DTp TxS DKq
section
variable {P : Program} {w : World} {K : PySem.W.Frag} {mg : Str → Option Value} {base : Heap} {G : Addr}
def spSame : Nat → Sp
  | 0 => fun _ _ _ _ => False
  | n + 1 => fun vs H Q _ => ∃ v, vs = [v] ∧ ((∃ x, v = .str x ∧ Q (.str x) H) ∨
      (∃ (a : Addr) (dl : List (Str × Str)), 1 ≤ n ∧ v = .ref a ∧ H a = some (.dK (dkv dl)) ∧ (keysD dl).Nodup ∧ dl.length ≤ 100 ∧ ∀ q H', L2.Same H H' → H q = none → H' q = some (.dK (dkv dl)) → Q (.ref q) H') ∨
      ∃ (a : Addr) (ss : List Str) (as : List Addr) (row : Str → List (Str × Str)), 2 ≤ n ∧ v = .ref a ∧ MvAt H a ss as row ∧ ss.Nodup ∧ ss.length ≤ 100 ∧ (∀ s ∈ ss, (keysD (row s)).Nodup ∧ (row s).length ≤ 100) ∧
        ∀ q bs H', L2.Same H H' → H q = none → (∀ b ∈ bs, H b = none) → MvAt H' q ss bs row → Q (.ref q) H')
abbrev nSame : List Str := ["_law_thing", "_law_key", "_law_item"]
theorem scSame : FnScope nSame ["_law_thing"] (defScope sSame) := ⟨rfl, rfl, rfl, by decide +kernel, rfl, by decide +kernel, by decide +kernel⟩
theorem step_same {g : Addr} {fd : FuncData} (F : Fun K "_law_same" "_law_same" sSame g fd) (Z : Blp mg) {n : Nat} (C : Cee P w K mg base (n + 1) "_law_same" ["_law_thing"] (spSame n)) : FnOk P w K mg base CX0 (n + 2) g fd ["_law_thing"] (spSame (n + 1)) := by
  refine F.ok scSame (fun vs H Q E h => ?_) (fun cdv A outer s H vs Q E hr h => ?_)
  · obtain ⟨v, rfl, _⟩ := h
    rfl
  · obtain ⟨v, rfl, h⟩ := h
    have nd := scSame.nd
    refine ⟨_, pss_cons (ps_if (pt_val (pe_callB call_isi (by rfl) Z.isi boot_isi (pa_cons (pv 0) (pa_cons (pe_bltn (v := .ty "dict") (by rfl) Z.dict (by decide +kernel) rfl) pa_nil))))
        (pss_one (ps_ret (pe_callTy (cr_dictP rfl) (by rfl) Z.dict (by decide +kernel) (pa_cons (pe_lock (pe_lc (own := [("_law_key", 1)]) (g := gName 1) (tt := tYes) (te := tTup (tCons (tVar 1) (tCons (tCall (spSame n) [] E0 (tCons (tDGet (tVar 0) (tVar 1)) tNil)) tNil))) rfl nd (pi_keys (pv 0)) (blkOk_by (own := [("_law_key", 1)]) (N := nSame) (sc := defScope sSame) (by decide +kernel))
          (fun _ _ _ _ _ => pg_name (i := 1) nd rfl (Or.inl rfl)) (fun _ _ _ _ _ => pts_nil) (fun _ _ _ _ _ => pe_tup (pa_cons (pv 1) (pa_cons (pe_c C hr rfl (pa_cons (pe_dget (hu_of hr) (pv 0) (pv 1) (fun _ _ => rfl)) pa_nil) (Nat.le_refl _)) pa_nil))))) pa_nil)))) pss_nil)
      (pss_cons (ps_if (pt_val (pe_callB call_isi (by rfl) Z.isi boot_isi (pa_cons (pv 0) (pa_cons (pe_bltn (v := .ty "list") (by rfl) Z.list (by decide +kernel) rfl) pa_nil))))
        (pss_one (ps_ret (pe_lc (own := [("_law_item", 2)]) (g := gName 2) (tt := tYes) (te := tCall (spSame n) [] E0 (tCons (tVar 2) tNil)) rfl nd (pi_list (pv 0)) (blkOk_by (own := [("_law_item", 2)]) (N := nSame) (sc := defScope sSame) (by decide +kernel))
          (fun _ _ _ _ _ => pg_name (i := 2) nd rfl (Or.inl rfl)) (fun _ _ _ _ _ => pts_nil) (fun _ _ _ _ _ => pe_c C hr rfl (pa_cons (pv 2) pa_nil) (Nat.le_refl _))))) pss_nil)
      (pss_one (ps_ret (pe_ifExp (pt_val (pe_callB call_isi (by rfl) Z.isi boot_isi (pa_cons (pv 0) (pa_cons (pe_bltn (v := .ty "tuple") (by rfl) Z.tuple (by decide +kernel) rfl) pa_nil))))
        (pe_callTy call_tuple_of (by rfl) Z.tuple (by decide +kernel) (pa_cons (pe_lc (own := [("_law_item", 2)]) (g := gName 2) (tt := tYes) (te := tCall (spSame n) [] E0 (tCons (tVar 2) tNil)) rfl nd (pi_tup (pv 0)) (blkOk_by (own := [("_law_item", 2)]) (N := nSame) (sc := defScope sSame) (by decide +kernel))
          (fun _ _ _ _ _ => pg_name (i := 2) nd rfl (Or.inl rfl)) (fun _ _ _ _ _ => pts_nil) (fun _ _ _ _ _ => pe_c C hr rfl (pa_cons (pv 2) pa_nil) (Nat.le_refl _))) pa_nil)) (pv 0))))), ?_⟩
    rcases h with ⟨x, rfl, k⟩ | ⟨a, dl, n1, rfl, ha, nk, few, k⟩ | ⟨a, ss, as, row, n2, rfl, mv, nds, few, rok, k⟩
    · refine ⟨_, rfl, _, _, _, _, false, rfl, .ty _, .base (.str _), kit_ty (by decide +kernel), _, rfl, iteF ?_⟩
      refine ⟨_, rfl, _, _, _, _, false, rfl, .ty _, .base (.str _), kit_ty (by decide +kernel), _, rfl, iteF ?_⟩
      exact ⟨_, rfl, _, _, _, _, false, rfl, .ty _, .base (.str _), kit_ty (by decide +kernel), _, rfl, iteF ⟨_, rfl, k⟩⟩
    · obtain ⟨m, rfl⟩ : ∃ m, n = m + 1 := ⟨n - 1, by omega⟩
      refine ⟨_, rfl, _, _, _, _, true, rfl, .ty _, .base (.dK ha), kit_ty (by decide +kernel), _, rfl, iteT ?_⟩
      show tCB (rDP K) (tCons (tLockE (tLc (iKeys (tVar 0)) (gName 1) tYes _ [1])) tNil) _ _ _
      refine rdS_keysE (K := K) (xs := keysD dl) (kvs := dkv dl) (key := fun o => o) (val := fun z => .str (kof dl z)) (fun od R hh => ⟨_, rfl, hh⟩) ha (dkv_keys dl) (by rw [keysD_len]; omega) ?_ ?_
      · intro z od H1 R hz s1 kR
        refine at_name (σ' := [some (.ref a), some (.str z), none]) rfl ⟨rfl, ?_⟩
        have dg : DGet H1 a (.str z) (some (.str (kof dl z))) := .inl ⟨_, Sum.inr z, .inr ⟨od, s1 _ _ upd_same⟩, rfl, (valV_dkv nk hz).symm⟩
        exact ⟨_, rfl, _, rfl, _, rfl, a, _, rfl, dg, _, rfl, .inl ⟨_, rfl, (by show 2 ≤ sizeLine; decide), fun t ht0 => kR t _ (Same.new ht0) upd_same⟩⟩
      · intro q H1 s1 hq0 hq
        rw [mergeK_strs nk, dkv_of nk] at hq
        exact k q H1 s1 hq0 hq
    · obtain ⟨m, rfl⟩ : ∃ m, n = m + 2 := ⟨n - 2, by omega⟩
      have ha := mv.at'
      refine ⟨_, rfl, _, _, _, _, true, rfl, .ty _, .base (.dK ha), kit_ty (by decide +kernel), _, rfl, iteT ?_⟩
      show tCB (rDP K) (tCons (tLockE (tLc (iKeys (tVar 0)) (gName 1) tYes _ [1])) tNil) _ _ _
      refine rdR_keys (K := K) (fun z => z) (fun z => .dK (dkv (row z))) (fun _ _ z => by cases z) (xs := ss) (kvs := mvK ss as) (fun od R hh => ⟨_, rfl, hh⟩) ha mv.keys (by omega) (by rw [List.map_id']; exact nds) (fun _ _ _ z => by cases z) ?_ ?_
      · intro z od H1 R hz s1 kR
        refine at_name (σ' := [some (.ref a), some (.str z), none]) rfl ⟨rfl, ?_⟩
        obtain ⟨b, vb, hb, mb⟩ := mvK_get mv.inns nds hz
        have nba : b ≠ a := fun e => (List.nodup_cons.mp mv.nda).1 (by rw [← e]; exact mb)
        have hb1 : H1 b = some (.dK (dkv (row z))) := s1 _ _ ((upd_ne nba).trans hb)
        have dg : DGet H1 a (.str z) (some (.ref b)) := .inl ⟨_, Sum.inr z, .inr ⟨od, s1 _ _ upd_same⟩, rfl, vb.symm⟩
        obtain ⟨nk, lk⟩ := rok z hz
        refine ⟨_, rfl, _, rfl, _, rfl, a, _, rfl, dg, _, rfl, .inr (.inl ⟨b, row z, by omega, rfl, hb1, nk, lk, fun q H2 s2 hq0 hq => ⟨(by show 2 ≤ sizeLine; decide), fun t ht0 => ?_⟩⟩)⟩
        have s3 := Same.new (H := H2) (o := .tup [.str z, .ref q]) ht0
        exact kR t q _ (s2.trans s3) hq0 (s3 _ _ hq) upd_same
      · intro q bs H1 s1 hq0 lb nda fr hq ob
        rw [List.map_id'] at hq
        exact k q bs H1 s1 hq0 fr ⟨hq, lb, nda, fun i s b h1 h2 => ob i s b h1 h2⟩
theorem ok_same {g : Addr} {fd : FuncData} (F : Fun K "_law_same" "_law_same" sSame g fd) (Z : Blp mg) (me : mg "_law_same" = some (.ref g)) (kp : PySem.W.keepIn K (.ref g) = true) (hb : Binds K fd ["_law_thing"] []) : ∀ n, FnOk P w K mg base CX0 (n + 1) g fd ["_law_thing"] (spSame n)
  | 0 => by
    refine F.ok scSame (fun vs H Q E h => ?_) (fun cdv A outer s H vs Q E hr h => ?_)
    · exact h.elim
    · exact h.elim
  | n + 1 => step_same F Z ⟨g, fd, ok_same F Z me kp hb n, me, kp, hb⟩
abbrev nNumb : List Str := ["_law_at", "_law_letters"]
theorem scNumb : FnScope nNumb ["_law_at"] (defScope sNumb) := ⟨rfl, rfl, rfl, by decide +kernel, rfl, by decide +kernel, by decide +kernel⟩
def spNumb : Sp := fun vs H Q _ => ∃ n : Nat, vs = [.int (n : Nat)] ∧ n < 64 ∧ ∀ H', L2.Same H H' → Q (.str (stW n)) H'
theorem stW_sign : ∀ n, n < 26 → (SmR.signs abcS)[n]? = some (stW n) ∧ stW n = ⟨#[97 + n]⟩ := by decide +kernel
theorem stW_high2 : ∀ n, n < 64 → 26 ≤ n → stW n = stW (n / 26 - 1) ++ stW (n % 26) := by decide +kernel
theorem ok_numb {g : Addr} {fd : FuncData} (F : Fun K "_law_numbered" "_law_numbered" sNumb g fd) (B0 : Blt mg) (Z : Blp mg) : FnOk P w K mg base CX0 1 g fd ["_law_at"] spNumb := by
  refine F.ok scNumb (fun vs H Q E h => ?_) (fun cdv A outer s H vs Q E hr h => ?_)
  · obtain ⟨n, rfl, _⟩ := h
    rfl
  · obtain ⟨n, rfl, hn, k⟩ := h
    have nd := scNumb.nd
    refine ⟨_, pss_cons (ps_set (i := 1) nd rfl (Or.inl rfl) (pe_callTy (SmR.cr_listStr rfl) (by rfl) Z.list (by decide +kernel) (pa_cons pe_str pa_nil)))
      (pss_one (ps_ret (pe_ifExp (pt_cmpR op_lt (pv 0) pe_int (nomark _)) (pe_ix ix_list (pv 1) (pv 0) (fun _ _ => rfl))
        (pe_op op_add_str (pe_ix ix_list (pv 1) (pe_op op_sub (pe_op op_fdiv (pv 0) pe_int) pe_int) (fun _ _ => rfl)) (pe_ix ix_list (pv 1) (pe_op op_mod (pe_callTy call_int1 (by rfl) B0.int boot_int (pa_cons (pv 0) pa_nil)) pe_int) (fun _ _ => rfl)))))), ?_⟩
    refine ⟨abcS, rfl, by decide +kernel, fun l hl0 => ?_⟩
    have s1 := Same.new (H := H) (o := .lst ((SmR.signs abcS).map V.str)) hl0
    have hl : upd H l (.lst ((SmR.signs abcS).map V.str)) l = _ := upd_same
    generalize upd H l (.lst ((SmR.signs abcS).map V.str)) = H1 at s1 hl ⊢
    refine at_name (σ' := [some (.int (n : Nat)), some (.ref l)]) rfl ?_
    have get : ∀ j : Nat, j < 26 → atI ((SmR.signs abcS).map V.str) (j : Int) = some (.str (stW j)) := fun j hj => atI_nat (by rw [List.getElem?_map, (stW_sign j hj).1]; rfl)
    refine ⟨_, rfl, _, _, rfl, rfl, _, rfl, ?_⟩
    refine ite2 (fun z => ?_) (fun z => ?_)
    · have z : n < 26 := by have := of_decide_eq_true z; omega
      exact ⟨_, rfl, _, rfl, l, _, (n : Nat), _, rfl, rfl, SqL.of hl, get n z, k _ s1⟩
    · have z : 26 ≤ n := by
        by_cases q : 26 ≤ n
        · exact q
        · exact absurd (decide_eq_true (show (n : Int) < 26 by omega)) z
      have h1 : n / 26 - 1 < 26 := by omega
      have h2 : n % 26 < 26 := by omega
      refine ⟨_, rfl, _, rfl, _, _, rfl, rfl, ⟨by decide, by decide⟩, _, _, rfl, rfl, l, _, _, _, rfl, rfl, SqL.of hl, (by
        rw [show (n : Int) / 26 - 1 = ((n / 26 - 1 : Nat) : Int) by omega]; exact get _ h1), ?_⟩
      refine ⟨_, rfl, _, rfl, .inl ⟨_, rfl, _, _, rfl, rfl, (by show (0 : Int) < 26; decide), l, _, _, _, rfl, rfl, SqL.of hl, (by
        rw [show (n : Int) % 26 = ((n % 26 : Nat) : Int) by omega]; exact get _ h2), ?_⟩⟩
      refine ⟨_, _, rfl, rfl, ?_, ?_⟩
      · rw [(stW_sign _ h1).2, (stW_sign _ h2).2]
        show 1 + 1 ≤ sizeLine
        decide
      · rw [← stW_high2 n hn z]
        exact k _ s1
end
end KT
set_option Elab.async false
set_option linter.all false
set_option maxRecDepth 100000
set_option maxHeartbeats 4000000
set_option pp.maxSteps 900
namespace KT
open PySem L2 PyProof.Rows DTp TxS DKq
section
variable {P : Program} {w : World} {K : PySem.W.Frag} {mg : Str → Option Value} {base : Heap} {G : Addr}
theorem scSpare : FnScope nSpare ["_law_words_here"] (defScope sSpare) := ⟨rfl, rfl, rfl, by decide +kernel, rfl, by decide +kernel, by decide +kernel⟩
theorem ok_spare {g : Addr} {fd : FuncData} (F : Fun K "_law_spare_words" "_law_spare_words" sSpare g fd) (Z : Blp mg) : FnOk P w K mg base CX0 1 g fd ["_law_words_here"] spSpare := by
  refine F.ok scSpare (fun vs H Q E h => ?_) (fun cdv A outer s H vs Q E hr h => ?_)
  · obtain ⟨l, ws, rfl, _⟩ := h
    rfl
  · obtain ⟨l, ws, rfl, hl, k⟩ := h
    have nd := scSpare.nd
    refine ⟨_, pss_one (ps_ret (pe_lc (own := [("_law_letter", 1)]) (g := gName 1) (tt := tTest (tOp (rIn K true) (tOp (fun x y H Q => ∃ (z : Str) (n : Int), x = .str z ∧ y = .int n ∧ MulOk z n ∧ Q (.str (Txt.mul z n)) H) (tVar 1) (tC (.int 8))) (tVar 0)))
        (te := tOp (fun x y H Q => ∃ (z : Str) (n : Int), x = .str z ∧ y = .int n ∧ MulOk z n ∧ Q (.str (Txt.mul z n)) H) (tVar 1) (tC (.int 8))) rfl nd (pi_list (pe_callTy (SmR.cr_listStr rfl) (by rfl) Z.list (by decide +kernel) (pa_cons pe_str pa_nil)))
        (blkOk_by (own := [("_law_letter", 1)]) (N := nSpare) (sc := defScope sSpare) (by decide +kernel)) (fun _ _ _ _ _ => pg_name (i := 1) nd rfl (Or.inl rfl))
        (fun _ _ _ _ _ => pts_one (pt_cmpR op_notIn_seq (pe_op SmR.op_mulSI (pv 1) pe_int) (pv 0) (by rfl))) (fun _ _ _ _ _ => pe_op SmR.op_mulSI (pv 1) pe_int))), ?_⟩
    refine ⟨"abcdefghijklmnopqrstuvwxyz", rfl, by decide +kernel, fun L hL => ?_⟩
    have s1 := Same.new (H := H) (o := .lst ((SmR.signs "abcdefghijklmnopqrstuvwxyz").map V.str)) hL
    have hL1 : upd H L (.lst ((SmR.signs "abcdefghijklmnopqrstuvwxyz").map V.str)) L = _ := upd_same
    generalize upd H L (.lst ((SmR.signs "abcdefghijklmnopqrstuvwxyz").map V.str)) = H1 at s1 hL1 ⊢
    refine ⟨L, rfl, ⟨_, SqL.of hL1⟩, fun D hD => ?_⟩
    refine lc_it (walk_list (K := K) (a := L) (xs := (SmR.signs "abcdefghijklmnopqrstuvwxyz").map V.str)) (fun n H' => L2.Same H1 H' ∧ H' D = some (.lst (((octs.take n).filter fun x => decide (x ∉ ws)).map V.str))) ?_ ?_ ?_ ?_
    · exact ⟨Same.new hD, upd_same⟩
    · rintro n H' _ ⟨sm, _⟩
      exact SqL.of (sm _ _ hL1)
    · rintro n v H0 H2 hn ⟨s2, hD2⟩ ⟨rfl, hv⟩
      obtain ⟨x, ex, rfl⟩ := str_get hv
      have eo : octs[n]? = some (Txt.mul x 8) := by
        unfold octs
        rw [List.getElem?_map, ex]
        rfl
      have xs1 : ∃ c, x = ⟨#[c]⟩ := by
        have m := List.mem_of_getElem? ex
        unfold SmR.signs at m
        obtain ⟨c, _, rfl⟩ := List.mem_map.mp m
        exact ⟨c, rfl⟩
      obtain ⟨c, rfl⟩ := xs1
      refine at_name (σ' := [some (.ref l), some (.str ⟨#[c]⟩)]) rfl ⟨rfl, ?_⟩
      refine ⟨_, rfl, _, 8, rfl, rfl, mul_ok8, _, rfl, l, _, rfl, .inl (SqL.of (s2 _ _ (s1 _ _ hl))), rfl, flat_strs ws, _, rfl, ?_⟩
      rw [if_pos rfl, inV_strs, take_next' eo, List.filter_append]
      have lenb : ((octs.take n).filter fun x => decide (x ∉ ws)).length ≤ 26 := Nat.le_trans (List.length_filter_le _ _) (by rw [List.length_take, octs_len]; omega)
      obtain ⟨z, ez⟩ : ∃ z, z = Txt.mul (⟨#[c]⟩ : Str) 8 := ⟨_, rfl⟩
      rw [← ez] at eo ⊢
      refine ite2 (fun hz => ?_) (fun hz => ?_)
      · have hz' : z ∉ ws := by simpa using hz
        refine ⟨_, rfl, _, 8, rfl, rfl, mul_ok8, _, hD2, by rw [List.length_map]; exact small1000 (by omega), fun b o e => ?_, ?_⟩
        · rw [upd_ne (ne_of_none e hD)]
          exact s2 _ _ e
        · have e1 : List.filter (fun x => decide (x ∉ ws)) [z] = [z] := List.filter_cons_of_pos (p := fun x => decide (x ∉ ws)) (l := []) (decide_eq_true hz')
          rw [e1, List.map_append, ez]
          exact upd_same
      · have hz' : z ∈ ws := by simpa using hz
        have e1 : List.filter (fun x => decide (x ∉ ws)) [z] = [] := List.filter_cons_of_neg (p := fun x => decide (x ∉ ws)) (l := []) (by simp [hz'])
        rw [e1, List.append_nil]
        exact ⟨s2, hD2⟩
    · rintro H2 ⟨s2, hD2⟩
      have e26 : octs.take ((SmR.signs "abcdefghijklmnopqrstuvwxyz").map V.str).length = octs := by rw [List.length_map, abc_len, ← octs_len, List.take_length]
      rw [e26] at hD2
      exact k D H2 (s1.trans s2) (s1.free hD) hD2
def spOrd : Sp := fun vs H Q _ => ∃ (a : Addr) (sts ds : List Str) (t : Str → Str → Str), vs = [.ref a] ∧ MvT H a sts ds t ∧ MV sts ds t ∧ ∀ q bs H', L2.Same H H' → H q = none → (∀ b ∈ bs, H b = none) → MvAt H' q sts bs (rowT ds t) → Q (.ref q) H'
abbrev nOrd : List Str := ["_law_moves", "_law_state", "_law_deed"]
theorem scOrd : FnScope nOrd ["_law_moves"] (defScope sOrd) := ⟨rfl, rfl, rfl, by decide +kernel, rfl, by decide +kernel, by decide +kernel⟩
abbrev scOrd1 : Scope := { kind := .function, names := [(".0", .local), ("_law_state", .cell), ("dict", .globalImplicit), ("sorted", .globalImplicit), ("_law_moves", .cell)], isGenerator := false, isCoroutine := false }
/-- what stands at a state in moves -/
theorem MvT.at {H : Hp} {a : Addr} {sts ds : List Str} {t : Str → Str → Str} (h : MvT H a sts ds t) (mv : MV sts ds t) : ∃ (ss : List Str) (as : List Addr) (row : Str → List (Str × Str)), H a = some (.dK (mvK ss as)) ∧ (mvK ss as).map (·.1) = ss.map Sum.inr ∧ ss.Perm sts ∧
    (∀ s ∈ sts, (keysD (row s)).Perm ds ∧ ∀ o ∈ ds, kof (row s) o = t s o) ∧ ∀ s ∈ sts, ∃ b, b ≠ a ∧ valV (mvK ss as) (Sum.inr s) = some (.ref b) ∧ H b = some (.dK (dkv (row s))) := by
  obtain ⟨ss, as, row, m, p, k⟩ := h
  refine ⟨ss, as, row, m.at', m.keys, p, k, fun s hs => ?_⟩
  obtain ⟨b, vb, hb, mb⟩ := mvK_get m.inns (p.nodup_iff.mpr mv.asc.nodup) (p.mem_iff.mpr hs)
  exact ⟨b, fun e => (List.nodup_cons.mp m.nda).1 (by rw [← e]; exact mb), vb, hb⟩
theorem ok_ord {g : Addr} {fd : FuncData} (F : Fun K "_law_ordered_moves" "_law_ordered_moves" sOrd g fd) (Z : Blp mg) : FnOk P w K mg base CX0 1 g fd ["_law_moves"] spOrd := by
  refine F.ok scOrd (fun vs H Q E h => ?_) (fun cdv A outer s H vs Q E hr h => ?_)
  · obtain ⟨a, sts, ds, t, rfl, _⟩ := h
    rfl
  · obtain ⟨a, sts, ds, t, rfl, mt, mv, k⟩ := h
    have nd := scOrd.nd
    refine ⟨_, pss_one (ps_ret (pe_callTy (cr_dictP rfl) (by rfl) Z.dict (by decide +kernel) (pa_cons
        (pe_lc (own := [("_law_state", 1)]) (g := gName 1) (tt := tYes) (te := tTup (tCons (tVar 1) (tCons (tCB (rDP K) (tCons (tLc (iList K (tCB rSortD (tCons (tDGet (tVar 0) (tVar 1)) tNil))) (gName 2) tYes (tTup (tCons (tVar 2) (tCons (tDGet (tDGet (tVar 0) (tVar 1)) (tVar 2)) tNil))) [2]) tNil)) tNil))) rfl nd
          (pi_list (pe_callB (cr_sortD rfl) (by rfl) Z.sorted (by decide +kernel) (pa_cons (pv 0) pa_nil))) (blkOk_by (own := [("_law_state", 1)]) (N := nOrd) (sc := defScope sOrd) (by decide +kernel))
          (fun _ _ _ _ _ => pg_name (i := 1) nd rfl (Or.inr rfl)) (fun _ _ _ _ _ => pts_nil)
          (fun _ _ _ _ _ => pe_tup (pa_cons (pv 1) (pa_cons (pe_callTy (cr_dictP rfl) (by rfl) Z.dict (by decide +kernel) (pa_cons
            (pe_lc (own := [("_law_deed", 2)]) (g := gName 2) (tt := tYes) (te := tTup (tCons (tVar 2) (tCons (tDGet (tDGet (tVar 0) (tVar 1)) (tVar 2)) tNil))) rfl nd
              (pi_list (pe_callB (cr_sortD rfl) (by rfl) Z.sorted (by decide +kernel) (pa_cons (pe_dget (hu_of hr) (pv 0) (pv 1) (fun _ _ => rfl)) pa_nil))) (blkOk_by (own := [("_law_deed", 2)]) (N := nOrd) (sc := scOrd1) (by decide +kernel))
              (fun _ _ _ _ _ => pg_name (i := 2) nd rfl (Or.inl rfl)) (fun _ _ _ _ _ => pts_nil)
              (fun _ _ _ _ _ => pe_tup (pa_cons (pv 2) (pa_cons (pe_dget (hu_of hr) (pe_dget (hu_of hr) (pv 0) (pv 1) (fun _ _ => rfl)) (pv 2) (fun _ _ => rfl)) pa_nil)))) pa_nil)) pa_nil)))) pa_nil))), ?_⟩
    obtain ⟨ss, as, row, ha, hk, pm, kt, gt⟩ := mt.at mv
    have few := mv.few
    have dfew := mv.dfew
    have nds := mv.asc.nodup
    show tCB (rDP K) (tCons (tLc (iList K (tCB rSortD (tCons (tVar 0) tNil))) (gName 1) tYes _ [1]) tNil) _ _ _
    refine rdR_list (K := K) V.str (fun z => z) (fun z => .dK (dkv (rowT ds t z))) (fun _ _ z => by cases z) (xs := sts) (by omega) (by rw [List.map_id']; exact nds) ?_ ?_ ?_
    · intro R hR
      refine ⟨_, rfl, a, _, ss, rfl, .inl ha, hk, by rw [pm.length_eq]; exact few, fun ys q pq so hq0 => ?_⟩
      have ey : ys = sts := (sortedS_asc so (pq.nodup_iff.mpr (pm.nodup_iff.mpr nds))).eq mv.asc (pq.trans pm)
      subst ey
      exact hR q _ (Same.new hq0) upd_same
    · intro z H1 R hz s1 kR
      refine at_name (σ' := [some (.ref a), some (.str z), none]) rfl ⟨rfl, ?_⟩
      obtain ⟨b, nba, vb, hb⟩ := gt z hz
      obtain ⟨k1, k2⟩ := kt z hz
      have nk : (keysD (row z)).Nodup := k1.nodup_iff.mpr mv.dsc.nodup
      refine ⟨_, rfl, ?_⟩
      show tCB (rDP K) (tCons (tLc (iList K (tCB rSortD (tCons (tDGet (tVar 0) (tVar 1)) tNil))) (gName 2) tYes _ [2]) tNil) _ _ _
      refine rdS_list (K := K) (xs := ds) (key := fun o => o) (val := fun o => .str (t z o)) (fun _ H' => L2.Same H1 H') (by omega) ?_ ?_ ?_
      · intro R2 hR2
        have dg := DGet.k (k := Sum.inr z) (s1 _ _ ha)
        rw [vb] at dg
        refine ⟨_, rfl, _, rfl, a, _, rfl, dg, b, dkv (row z), keysD (row z), rfl, .inl (s1 _ _ hb), dkv_keys _, by rw [k1.length_eq]; omega, fun ys q pq so hq0 => ?_⟩
        have ey : ys = ds := (sortedS_asc so (pq.nodup_iff.mpr nk)).eq mv.dsc (pq.trans k1)
        subst ey
        exact hR2 q _ upd_same (Same.new hq0)
      · intro l o H2 H3 R3 ho s2 s3 kR3
        refine at_name (σ' := [some (.ref a), some (.str z), some (.str o)]) rfl ⟨rfl, ?_⟩
        have s13 : L2.Same H H3 := L2.Same.trans s1 (L2.Same.trans s2 s3)
        have dg := DGet.k (k := Sum.inr z) (s13 _ _ ha)
        rw [vb] at dg
        have dg2 := DGet.k (k := Sum.inr o) (s13 _ _ hb)
        rw [valV_dkv nk (k1.mem_iff.mpr ho), k2 o ho] at dg2
        exact ⟨_, rfl, _, rfl, _, rfl, a, _, rfl, dg, _, rfl, b, _, rfl, dg2, (by show 2 ≤ sizeLine; decide), fun tq htq0 => kR3 tq _ (Same.new htq0) upd_same⟩
      · intro q l H2 H3 s2 s3 hq0 hq
        rw [mergeK_strs mv.dsc.nodup] at hq
        refine ⟨(by show 2 ≤ sizeLine; decide), fun tq htq0 => ?_⟩
        have s4 := Same.new (H := H3) (o := .tup [.str z, .ref q]) htq0
        have s13 : L2.Same H1 H3 := L2.Same.trans s2 s3
        refine kR tq q _ (s13.trans s4) (L2.Same.free s2 hq0) (s4 _ _ ?_) upd_same
        rw [hq]
        unfold dkv rowT
        rw [List.map_map]; rfl
    · intro q bs H1 s1 hq0 lb nda fr hq ob
      rw [List.map_id'] at hq
      exact k q bs H1 s1 hq0 fr ⟨hq, lb, nda, fun i s b h1 h2 => ob i s b h1 h2⟩
def rotD (k : Nat) (dl : List (Str × Str)) : List (Str × Str) := dl.drop k ++ dl.take k
theorem rotD_perm (k : Nat) (dl : List (Str × Str)) : (rotD k dl).Perm dl := by
  unfold rotD
  exact List.perm_append_comm.trans (by rw [List.take_append_drop])
theorem paired_drop {α β : Type} {R : α → β → Prop} : ∀ {xs : List α} {ys : List β} (k : Nat), Paired R xs ys → Paired R (xs.drop k) (ys.drop k)
  | _, _, 0, h => h
  | _, _, _ + 1, .nil => .nil
  | _, _, k + 1, .cons _ t => paired_drop k t
theorem paired_take {α β : Type} {R : α → β → Prop} : ∀ {xs : List α} {ys : List β} (k : Nat), Paired R xs ys → Paired R (xs.take k) (ys.take k)
  | _, _, 0, _ => .nil
  | _, _, _ + 1, .nil => .nil
  | _, _, k + 1, .cons r t => .cons r (paired_take k t)
/-- moves in the heap H', made behind H -/
def MvF (H H' : Hp) (a : Addr) (sts ds : List Str) (t : Str → Str → Str) : Prop := ∃ (ss : List Str) (as : List Addr) (row : Str → List (Str × Str)), MvAt H' a ss as row ∧ ss.Perm sts ∧ (∀ s ∈ sts, (keysD (row s)).Perm ds ∧ ∀ o ∈ ds, kof (row s) o = t s o) ∧ ∀ b ∈ as, H b = none
theorem MvF.toT {H H' : Hp} {a : Addr} {sts ds : List Str} {t : Str → Str → Str} (h : MvF H H' a sts ds t) : MvT H' a sts ds t := let ⟨ss, as, row, m, p, k, _⟩ := h; ⟨ss, as, row, m, p, k⟩
def spLent : Sp := fun vs H Q _ => ∃ (a : Addr) (sts ds : List Str) (t : Str → Str → Str), vs = [.ref a] ∧ MvT H a sts ds t ∧ MV sts ds t ∧ ∀ q H', L2.Same H H' → H q = none → MvF H H' q sts ds t → Q (.ref q) H'
abbrev nLent : List Str := ["_law_moves", "_law_found", "_law_at", "_law_state", "_law_items", "_law_spot"]
theorem scLent : FnScope nLent ["_law_moves"] (defScope sLent) := ⟨rfl, rfl, rfl, by decide +kernel, rfl, by decide +kernel, by decide +kernel⟩
theorem ok_lent {g : Addr} {fd : FuncData} (F : Fun K "_law_lent" "_law_lent" sLent g fd) (B0 : Blt mg) (Z : Blp mg) (hen : mg "enumerate" = none) : FnOk P w K mg base CX0 1 g fd ["_law_moves"] spLent := by
  refine F.ok scLent (fun vs H Q E h => ?_) (fun cdv A outer s H vs Q E hr h => ?_)
  · obtain ⟨a, sts, ds, t, rfl, _⟩ := h
    rfl
  · obtain ⟨a, sts, ds, t, rfl, mt, mv, k⟩ := h
    have nd := scLent.nd
    refine ⟨_, pss_cons (ps_set (i := 1) nd rfl (Or.inl rfl) pe_dnewK)
      (pss_cons (ps_for PassesOwn.never rfl (pi_enum rfl hen (pa_cons (pe_revL (pe_callTy (call_listD rfl) (by rfl) Z.list (by decide +kernel) (pa_cons (pv 0) pa_nil))) pa_nil)) (pg_tup rfl (pgs_cons (pg_name (i := 2) nd rfl (Or.inl rfl)) (pgs_cons (pg_name (i := 3) nd rfl (Or.inl rfl)) pgs_nil)))
        (pss_cons (ps_set (i := 4) nd rfl (Or.inl rfl) (LiI.pe_listItems rfl (pe_dget (hu_of hr) (pv 0) (pv 3) (fun _ _ => rfl)) rfl Z.list (by decide +kernel)))
        (pss_cons (ps_set (i := 5) nd rfl (Or.inl rfl) (pe_op op_mod (pe_callTy call_int1 (by rfl) B0.int boot_int (pa_cons (pv 2) pa_nil)) (pe_callB call_len_seq (by rfl) B0.len PySem.boot_len (pa_cons (pv 4) pa_nil))))
        (pss_one (ps_dput (hu_of hr) (pv 1) (pv 3) (pe_callTy (cr_dictP rfl) (by rfl) Z.dict (by decide +kernel) (pa_cons (pe_op op_cat (pe_slice sl_list (pv 4) (po_some (pv 5)) po_none) (pe_slice sl_list (pv 4) po_none (po_some (pv 5)))) pa_nil)) rfl)))))
      (pss_one (ps_ret (pv 1)))), ?_⟩
    obtain ⟨ss, as, row, ha, hk, pm, kt, gt⟩ := mt.at mv
    have few := mv.few
    have dfew := mv.dfew
    have nds := mv.asc.nodup
    obtain ⟨R, eR⟩ : ∃ R, R = ss.reverse := ⟨_, rfl⟩
    have pR : R.Perm sts := by rw [eR]; exact (List.reverse_perm ss).trans pm
    have nR : R.Nodup := pR.nodup_iff.mpr nds
    have lR : R.length < 64 := by rw [pR.length_eq]; exact few
    obtain ⟨row2, er2⟩ : ∃ row2 : Str → List (Str × Str), row2 = fun s => rotD (R.idxOf s % (row s).length) (row s) := ⟨_, rfl⟩
    refine fun d hd0 => ?_
    have s1 := Same.new (H := H) (o := .dK []) hd0
    have hd : upd H d (.dK []) d = some (.dK (mvK (R.take 0) [])) := by rw [upd_same]; rfl
    generalize upd H d (.dK []) = H1 at s1 hd ⊢
    refine at_name (σ' := [some (.ref a), some (.ref d), none, none, none, none]) rfl ?_
    refine ⟨_, rfl, a, _, rfl, .inl (s1 _ _ ha), fun l0 hl00 => ?_⟩
    have e0 : (mvK ss as).map (fun kv => kV kv.1) = ss.map V.str := by
      generalize mvK ss as = kvs at hk
      have e := congrArg (List.map kV) hk
      rw [List.map_map, List.map_map] at e
      exact e
    rw [e0]
    have s2 := Same.new (H := H1) (o := .lst (ss.map V.str)) hl00
    have hl0 : upd H1 l0 (.lst (ss.map V.str)) l0 = _ := upd_same
    generalize upd H1 l0 (.lst (ss.map V.str)) = H2 at s2 hl0 ⊢
    refine ⟨l0, _, rfl, SqL.of hl0, fun l hl00 => ?_⟩
    rw [← List.map_reverse, ← eR]
    have s3 := Same.new (H := H2) (o := .lst (R.map V.str)) hl00
    have hl : upd H2 l (.lst (R.map V.str)) l = _ := upd_same
    generalize upd H2 l (.lst (R.map V.str)) = H3 at s3 hl ⊢
    have s03 : L2.Same H H3 := s1.trans (s2.trans s3)
    have hd3 := s3 _ _ (s2 _ _ hd)
    have nld : l ≠ d := ne_of hl hd3 (by intro z; cases z)
    refine ⟨l, _, rfl, SqL.of hl, ?_⟩
    refine for_it (walk_enum (K := K) (a := l) (xs := R.map V.str)) (fun i σ H' => ∃ (x2 x3 x4 x5 : Option V), σ = [some (.ref a), some (.ref d), x2, x3, x4, x5] ∧ L2.Same H H' ∧ H' l = some (.lst (R.map V.str)) ∧ ∃ bs : List Addr, H' d = some (.dK (mvK (R.take i) bs)) ∧ MvIn H' (R.take i) bs row2 ∧ (d :: bs).Nodup ∧ ∀ b ∈ bs, H b = none) ?_ ?_ ?_ ?_
    · exact ⟨_, _, _, _, rfl, s03, hl, [], hd3, ⟨by rw [List.take_zero]; rfl, fun i s b h1 h2 => by cases h2⟩, by simp, by simp⟩
    · rintro i σ H' _ ⟨x2, x3, x4, x5, rfl, _, hl', _⟩
      exact SqL.of hl'
    · rintro i v σ H4' H4 hi ⟨x2, x3, x4, x5, rfl, s4, hl4, bs, hd4, mi, ndb, frb⟩ hY
      obtain ⟨T, x, y, rfl, hT, rfl, hx, hy⟩ := hY
      cases hx
      obtain ⟨z, ez, rfl⟩ := str_get hy
      have hz : z ∈ sts := pR.mem_iff.mp (List.mem_of_getElem? ez)
      have hi2 : i < R.length := (List.getElem?_eq_some_iff.mp ez).1
      have sT := Same.new (H := H4') (o := .tup [.int (i : Nat), .str z]) hT
      refine ⟨T, _, rfl, SqT.of upd_same, rfl, _, _, rfl, at_name (σ' := [some (.ref a), some (.ref d), some (.int (i : Nat)), x3, x4, x5]) rfl ⟨_, _, rfl, at_name (σ' := [some (.ref a), some (.ref d), some (.int (i : Nat)), some (.str z), x4, x5]) rfl ⟨rfl, ?_⟩⟩⟩
      have s5 : L2.Same H (upd H4' T (.tup [.int (i : Nat), .str z])) := s4.trans sT
      have hd5 := sT _ _ hd4
      have hl5 := sT _ _ hl4
      have mi5 := mi.mono sT
      generalize upd H4' T (.tup [.int (i : Nat), .str z]) = H5 at s5 hd5 hl5 mi5 ⊢
      obtain ⟨b, nba, vb, hb⟩ := gt z hz
      obtain ⟨k1, k2⟩ := kt z hz
      have nk : (keysD (row z)).Nodup := k1.nodup_iff.mpr mv.dsc.nodup
      have lrow : (row z).length = ds.length := by rw [← keysD_len, k1.length_eq]
      have dpos : 0 < ds.length := List.length_pos_iff.mpr mv.dne
      have dg := DGet.k (k := Sum.inr z) (s5 _ _ ha)
      rw [vb] at dg
      refine ⟨_, rfl, _, rfl, a, _, rfl, dg, b, _, rfl, s5 _ _ hb, fun H6 li ts s6 hli0 hts nli hli it => ?_⟩
      refine at_name (σ' := [some (.ref a), some (.ref d), some (.int (i : Nat)), some (.str z), some (.ref li), x5]) rfl ?_
      have lts : ts.length = ds.length := by rw [Paired.length it, dkv_len, lrow]
      have s6 : L2.Same H5 H6 := s6
      refine ⟨_, rfl, .inl ⟨_, rfl, _, rfl, li, _, rfl, .inl (SqL.of hli), _, _, rfl, rfl, (by rw [List.length_map, lts]; exact Int.natCast_pos.mpr dpos), ?_⟩⟩
      have ek : ((i : Nat) : Int) % ((ts.map V.ref).length : Nat) = ((i % (row z).length : Nat) : Int) := by
        rw [List.length_map, lts, lrow]; rfl
      obtain ⟨kk, ekk⟩ : ∃ kk, kk = i % (row z).length := ⟨_, rfl⟩
      rw [← ekk] at ek
      have kkl : kk ≤ (row z).length := by rw [ekk]; exact Nat.le_of_lt (Nat.mod_lt _ (by rw [lrow]; exact dpos))
      refine at_name (σ' := [some (.ref a), some (.ref d), some (.int (i : Nat)), some (.str z), some (.ref li), some (.int (kk : Nat))]) (by dsimp only; rw [ek]; rfl) ?_
      refine ⟨_, rfl, _, rfl, _, rfl, li, _, rfl, SqL.of hli, fun p1 hp10 => ?_⟩
      rw [cut_from _ _ (by rw [List.length_map, lts, ← lrow]; exact kkl), ← List.map_drop]
      have s7 := Same.new (H := H6) (o := .lst ((ts.drop kk).map V.ref)) hp10
      have hp1 : upd H6 p1 (.lst ((ts.drop kk).map V.ref)) p1 = _ := upd_same
      generalize upd H6 p1 (.lst ((ts.drop kk).map V.ref)) = H7 at s7 hp1 ⊢
      refine ⟨_, rfl, _, rfl, _, rfl, li, _, rfl, SqL.of (s7 _ _ hli), fun p2 hp20 => ?_⟩
      rw [cut_to _ _ (by rw [List.length_map, lts, ← lrow]; exact kkl), ← List.map_take]
      have s8 := Same.new (H := H7) (o := .lst ((ts.take kk).map V.ref)) hp20
      have hp2 : upd H7 p2 (.lst ((ts.take kk).map V.ref)) p2 = _ := upd_same
      generalize upd H7 p2 (.lst ((ts.take kk).map V.ref)) = H8 at s8 hp2 ⊢
      refine ⟨p1, p2, _, _, rfl, rfl, s8 _ _ hp1, hp2, by rw [List.length_map, List.length_map, List.length_drop, List.length_take, sizeLine_eq]; omega, fun p3 hp30 => ?_⟩
      rw [← List.map_append]
      have s9 := Same.new (H := H8) (o := .lst ((ts.drop kk ++ ts.take kk).map V.ref)) hp30
      have hp3 : upd H8 p3 (.lst ((ts.drop kk ++ ts.take kk).map V.ref)) p3 = _ := upd_same
      generalize upd H8 p3 (.lst ((ts.drop kk ++ ts.take kk).map V.ref)) = H9 at s9 hp3 ⊢
      have s69 : L2.Same H6 H9 := s7.trans (s8.trans s9)
      have it9 : Paired (fun (t : Addr) (q : Key × V) => SqT K H9 t [kV q.1, q.2]) ts (dkv (row z)) := Paired.mapP it fun t q h => SqT.of (s69 _ _ h)
      have erot : dkv (rotD kk (row z)) = (dkv (row z)).drop kk ++ (dkv (row z)).take kk := by
        unfold dkv rotD
        rw [List.map_append, List.map_drop, List.map_take]
      refine ⟨p3, ts.drop kk ++ ts.take kk, dkv (rotD kk (row z)), rfl, SqL.of hp3, by rw [erot]; exact paired_append (paired_drop kk it9) (paired_take kk it9), fun qn hqn0 => ?_⟩
      have nrot : (keysD (rotD kk (row z))).Nodup := (perm_keys (rotD_perm kk (row z))).nodup_iff.mpr nk
      rw [mergeK_dkv nrot]
      have s10 := Same.new (H := H9) (o := .dK (dkv (rotD kk (row z)))) hqn0
      have hqn : upd H9 qn (.dK (dkv (rotD kk (row z)))) qn = _ := upd_same
      generalize upd H9 qn (.dK (dkv (rotD kk (row z)))) = H10 at s10 hqn ⊢
      have s610 : L2.Same H6 H10 := s69.trans s10
      have s510 : L2.Same H5 H10 := s6.trans s610
      have s910 : L2.Same H5 H9 := s6.trans s69
      have hd10 := s510 _ _ hd5
      have mi10 := mi5.mono s510
      have nqd : qn ≠ d := fun e => by rw [e, s910 _ _ hd5] at hqn0; cases hqn0
      have lz : (R.take i).length = i := by rw [List.length_take]; omega
      have lb : bs.length = i := by rw [mi.len, lz]
      have nqb : qn ∉ bs := fun hm => by
        obtain ⟨j, hj⟩ := List.mem_iff_getElem?.mp hm
        have hlt := (List.getElem?_eq_some_iff.mp hj).1
        obtain ⟨u, hu⟩ : ∃ u, (R.take i)[j]? = some u := ⟨_, List.getElem?_eq_getElem (by rw [lz]; omega)⟩
        have := (mi5.mono s910).inn j u qn hu hj
        rw [hqn0] at this; cases this
      have new : (Sum.inr z : Key) ∉ (mvK (R.take i) bs).map (·.1) := by
        rw [mvK_keys mi.len]
        intro h
        obtain ⟨u, hu, e⟩ := List.mem_map.mp h
        obtain rfl : u = z := Sum.inr.inj e
        have nt : (R.take (i + 1)).Nodup := List.Pairwise.sublist (List.take_sublist _ _) nR
        rw [take_next' ez] at nt
        exact (List.nodup_append.mp nt).2.2 _ hu _ (List.mem_singleton.mpr rfl) rfl
      refine ⟨_, rfl, _, rfl, d, _, rfl, DPut.k (k := Sum.inr z) hd10 (by rw [List.length_map, List.length_zip, lz, lb, sizeLine_eq]; omega), ?_⟩
      refine ⟨_, _, _, _, rfl, fun c o e => (upd_ne (ne_of_none e hd0)).trans (s510 _ _ (s5 _ _ e)), (upd_ne nld).trans (s510 _ _ hl5), bs ++ [qn], ?_, ⟨?_, fun j u c h1 h2 => ?_⟩, ?_, fun c hc => (List.mem_append.mp hc).elim (frb c) fun h => by rw [List.mem_singleton.mp h]; exact (s5.trans s910).free hqn0⟩
      · rw [upd_same, putK_new new, take_next' ez]
        unfold mvK
        rw [List.zip_append (by rw [lz, lb]), List.map_append]
        rfl
      · rw [List.length_append, lb, List.length_take, List.length_singleton]; omega
      · rw [take_next' ez] at h1
        by_cases hj : j < i
        · rw [List.getElem?_append_left (by rw [lz]; exact hj)] at h1
          rw [List.getElem?_append_left (by omega)] at h2
          have ncd : c ≠ d := fun e => (List.nodup_cons.mp ndb).1 (by rw [← e]; exact List.mem_of_getElem? h2)
          rw [upd_ne ncd]
          exact mi10.inn j u c h1 h2
        · have hlt := (List.getElem?_eq_some_iff.mp h2).1
          rw [List.length_append, lb, List.length_singleton] at hlt
          have ej : j = i := by omega
          subst ej
          rw [List.getElem?_append_right (by rw [lz]; omega), lz, Nat.sub_self] at h1
          rw [List.getElem?_append_right (by omega), lb, Nat.sub_self] at h2
          obtain rfl := Option.some.inj h1
          obtain rfl := Option.some.inj h2
          rw [upd_ne nqd, hqn, er2]
          show some (HO.dK (dkv (rotD kk (row z)))) = some (HO.dK (dkv (rotD (R.idxOf z % (row z).length) (row z))))
          rw [idx_at nR ez, ekk]
      · rw [← List.cons_append]
        exact List.nodup_append.mpr ⟨ndb, by simp, fun c hc e he => by
          rw [List.mem_singleton.mp he]
          rcases List.mem_cons.mp hc with h | h
          · rw [h]; exact Ne.symm nqd
          · exact fun h2 => nqb (h2 ▸ h)⟩
    · rintro σ H4 ⟨x2, x3, x4, x5, rfl, s4, hl4, bs, hd4, mi, ndb, frb⟩
      rw [List.length_map, List.take_length] at hd4 mi
      refine ⟨_, rfl, k d H4 s4 hd0 ⟨R, bs, row2, ⟨hd4, mi.len, ndb, mi.inn⟩, pR, fun s hs => ?_, frb⟩⟩
      obtain ⟨k1, k2⟩ := kt s hs
      have nk : (keysD (row s)).Nodup := k1.nodup_iff.mpr mv.dsc.nodup
      rw [er2]
      have pr := rotD_perm (R.idxOf s % (row s).length) (row s)
      refine ⟨(perm_keys pr).trans k1, fun o ho => ?_⟩
      show kof (rotD (R.idxOf s % (row s).length) (row s)) o = t s o
      rw [kof_perm pr nk (k1.mem_iff.mpr ho), k2 o ho]
theorem scSto : FnScope ["_law_moves"] ["_law_moves"] (defScope sStore) := ⟨rfl, rfl, rfl, by decide +kernel, rfl, by decide +kernel, by decide +kernel⟩
def spSto (G : Addr) : Sp := fun vs H Q _ => ∃ (a : Addr) (sts ds : List Str) (t : Str → Str → Str), vs = [.ref a] ∧ MvT H a sts ds t ∧ MV sts ds t ∧ ∀ x H', L2.Same H H' → H x = none → GoE G H' x sts ds t → Q (.ref x) H'
theorem ok_sto {g : Addr} {fd : FuncData} (F : Fun K "_law_store" "_law_store" sStore g fd) (T : GTx K mg G) (M : GMk P w K mg base G) (L : Cee P w K mg base 1 "_law_lent" ["_law_moves"] spLent) : FnOk P w K mg base CX0 6 g fd ["_law_moves"] (spSto G) := by
  refine F.ok scSto (fun vs H Q E h => ?_) (fun cdv A outer s H vs Q E hr h => ?_)
  · obtain ⟨a, sts, ds, t, rfl, _⟩ := h
    rfl
  · obtain ⟨a, sts, ds, t, rfl, mt, mv, k⟩ := h
    refine ⟨_, pss_one (ps_ret (pe_store M T.mgG hr rfl (pa_cons (pe_c L hr rfl (pa_cons (pv 0) pa_nil)) pa_nil))), ?_⟩
    refine ⟨_, rfl, a, sts, ds, t, rfl, mt, mv, fun q H1 s1 hq0 hq => ?_⟩
    exact mk_storeT hq.toT mv fun x H2 gx hx0 s2 => k x H2 (s1.trans s2) (s1.free hx0) gx
end
end KT
set_option Elab.async false
set_option linter.all false
set_option maxRecDepth 100000
set_option maxHeartbeats 4000000
set_option pp.maxSteps 900
namespace KT
open PySem L2 PyProof.Rows DTp TxS DKq
/-- moves that are being filled -/
structure Bld (H : Hp) (d : Addr) (ss : List Str) (i : Nat) (bs : List Addr) (row : Str → List (Str × Str)) : Prop where
  at' : H d = some (.dK (mvK (ss.take i) bs))
  inn : MvIn H (ss.take i) bs row
  nd : (d :: bs).Nodup
theorem Bld.mono {H H' : Hp} {d : Addr} {ss : List Str} {i : Nat} {bs : List Addr} {row : Str → List (Str × Str)} (h : Bld H d ss i bs row) (s : L2.Same H H') : Bld H' d ss i bs row := ⟨s _ _ h.at', h.inn.mono s, h.nd⟩
theorem Bld.nil {H : Hp} {d : Addr} {ss : List Str} {row : Str → List (Str × Str)} (h : H d = some (.dK [])) : Bld H d ss 0 [] row := ⟨h, ⟨by rw [List.take_zero]; rfl, fun i s b h1 h2 => by cases h2⟩, by simp⟩
theorem Bld.put {H H5 : Hp} {d q : Addr} {ss : List Str} {i : Nat} {bs : List Addr} {row : Str → List (Str × Str)} {z : Str} (h : Bld H d ss i bs row) (nR : ss.Nodup) (ez : ss[i]? = some z) (s : L2.Same H H5 ∨ ∃ p, But p H H5 ∧ d ≠ p ∧ ∀ b ∈ bs, b ≠ p) (hq0 : H q = none) (hq : H5 q = some (.dK (dkv (row z)))) (few : ss.length ≤ 100) :
    H5 d = some (.dK (mvK (ss.take i) bs)) ∧ (mvK (ss.take i) bs).length < sizeLine ∧ Bld (upd H5 d (.dK (putK (mvK (ss.take i) bs) (Sum.inr z) (.ref q)))) d ss (i + 1) (bs ++ [q]) row := by
  have hi2 : i < ss.length := (List.getElem?_eq_some_iff.mp ez).1
  have st : ∀ c o, (c = d ∨ c ∈ bs) → H c = some o → H5 c = some o := fun c o hc e => by
    rcases s with s | ⟨p, b, n1, n2⟩
    · exact s _ _ e
    · refine b _ _ ?_ e
      rcases hc with rfl | hc
      · exact n1
      · exact n2 c hc
  have hd5 := st d _ (.inl rfl) h.at'
  have nqd : q ≠ d := fun e => by rw [e, h.at'] at hq0; cases hq0
  have lz : (ss.take i).length = i := by rw [List.length_take]; omega
  have lb : bs.length = i := by rw [h.inn.len, lz]
  have nqb : q ∉ bs := fun hm => by
    obtain ⟨j, hj⟩ := List.mem_iff_getElem?.mp hm
    have hlt := (List.getElem?_eq_some_iff.mp hj).1
    obtain ⟨u, hu⟩ : ∃ u, (ss.take i)[j]? = some u := ⟨_, List.getElem?_eq_getElem (by rw [lz]; omega)⟩
    have := h.inn.inn j u q hu hj
    rw [hq0] at this; cases this
  have new : (Sum.inr z : Key) ∉ (mvK (ss.take i) bs).map (·.1) := by
    rw [mvK_keys h.inn.len]
    intro hm
    obtain ⟨u, hu, e⟩ := List.mem_map.mp hm
    obtain rfl : u = z := Sum.inr.inj e
    have nt : (ss.take (i + 1)).Nodup := List.Pairwise.sublist (List.take_sublist _ _) nR
    rw [take_next' ez] at nt
    exact (List.nodup_append.mp nt).2.2 _ hu _ (List.mem_singleton.mpr rfl) rfl
  refine ⟨hd5, by rw [List.length_map, List.length_zip, lz, lb, sizeLine_eq]; omega, ?_, ⟨?_, fun j u c h1 h2 => ?_⟩, ?_⟩
  · rw [upd_same, putK_new new, take_next' ez]
    unfold mvK
    rw [List.zip_append (by rw [lz, lb]), List.map_append]
    rfl
  · rw [List.length_append, lb, List.length_take, List.length_singleton]; omega
  · rw [take_next' ez] at h1
    by_cases hj : j < i
    · rw [List.getElem?_append_left (by rw [lz]; exact hj)] at h1
      rw [List.getElem?_append_left (by omega)] at h2
      have mc := List.mem_of_getElem? h2
      have ncd : c ≠ d := fun e => (List.nodup_cons.mp h.nd).1 (by rw [← e]; exact mc)
      rw [upd_ne ncd]
      exact st c _ (.inr mc) (h.inn.inn j u c h1 h2)
    · have hlt := (List.getElem?_eq_some_iff.mp h2).1
      rw [List.length_append, lb, List.length_singleton] at hlt
      have ej : j = i := by omega
      subst ej
      rw [List.getElem?_append_right (by rw [lz]; omega), lz, Nat.sub_self] at h1
      rw [List.getElem?_append_right (by omega), lb, Nat.sub_self] at h2
      obtain rfl := Option.some.inj h1
      obtain rfl := Option.some.inj h2
      rw [upd_ne nqd]
      exact hq
  · rw [← List.cons_append]
    exact List.nodup_append.mpr ⟨h.nd, by simp, fun c hc e he => by
      rw [List.mem_singleton.mp he]
      rcases List.mem_cons.mp hc with h | h
      · rw [h]; exact Ne.symm nqd
      · exact fun h2 => nqb (h2 ▸ h)⟩
theorem Bld.full {H : Hp} {d : Addr} {ss : List Str} {bs : List Addr} {row : Str → List (Str × Str)} (h : Bld H d ss ss.length bs row) : MvAt H d ss bs row := by
  obtain ⟨h1, h2, h3⟩ := h
  rw [List.take_length] at h1 h2
  exact ⟨h1, h2.len, h3, h2.inn⟩
section
variable {K : PySem.W.Frag}
/-- dict([(text, value) for place, text in enumerate(list)]) -/
theorem rdS_enum {key : Str → Str} {val : Str → V} {tl : TA} {g : TG} {te : TE} {vs : List Nat} {σ : L2.St} {H : Hp} {Q : VK} {xs : List Str} (few : xs.length ≤ 1000)
    (hl : ∀ R : List V → Hp → Prop, (∀ l H1, L2.Same H H1 → H1 l = some (.lst (xs.map V.str)) → R [.ref l] H1) → tl σ H R)
    (step : ∀ i x T H1 (R : VK), xs[i]? = some x → L2.Same H H1 → H1 T = some (.tup [.int (i : Nat), .str x]) → (∀ t H3, L2.Same H1 H3 → H3 t = some (.tup [.str (key x), val x]) → R (.ref t) H3) → g (.ref T) (wipe σ vs) H1 fun σ2 H2 => wipe σ2 vs = wipe σ vs ∧ te σ2 H2 R)
    (k : ∀ q H', L2.Same H H' → H q = none → H' q = some (.dK (mergeK [] (xs.map fun x => (Sum.inr (key x), val x)))) → Q (.ref q) H') :
    tCB (rDP K) (tCons (tLc (iEnum K tl) g tYes te vs) tNil) σ H Q := by
  refine hl _ fun l H1 s1 h1 => ?_
  refine ⟨l, _, rfl, SqL.of h1, fun D hD => ?_⟩
  refine lc_it (walk_enum (K := K) (a := l) (xs := xs.map V.str)) (fun n H' => L2.Same H1 H' ∧ ∃ ps : List Addr, H' D = some (.lst (ps.map V.ref)) ∧ Paired (fun t x => H' t = some (.tup [.str (key x), val x])) ps (xs.take n)) ?_ ?_ ?_ ?_
  · exact ⟨Same.new hD, [], upd_same, by rw [List.take_zero]; exact .nil⟩
  · rintro i H2 _ ⟨s2, _⟩
    exact SqL.of (s2 _ _ h1)
  · rintro n x H0 H2 hn ⟨s2, ps, hD2, pr⟩ hY
    obtain ⟨T, x0, y, rfl, hT, rfl, hx, hy⟩ := hY
    cases hx
    obtain ⟨z, ez, rfl⟩ := str_get hy
    have sT := Same.new (H := H0) (o := .tup [.int (n : Nat), .str z]) hT
    refine step n z T _ _ ez (s1.trans (s2.trans sT)) upd_same fun t H3 s3 ht => ?_
    have s03 : L2.Same H0 H3 := fun b o e => s3 _ _ (sT _ _ e)
    have lp := Paired.length pr
    have hD3 := s03 _ _ hD2
    have ntD : t ≠ D := ne_of ht hD3 (fun z => nomatch z)
    refine ⟨_, hD3, by rw [List.length_map, lp, List.length_take]; exact small1000 (by omega), fun c o e => ?_, ps ++ [t], by rw [upd_same, List.map_append]; rfl, ?_⟩
    · rw [upd_ne (ne_of_none e hD)]
      exact s03 _ _ (s2 _ _ e)
    · rw [take_next' ez]
      refine paired_snoc (Paired.mapP pr fun a b e => ?_) ((upd_ne ntD).trans ht)
      exact (upd_ne (ne_of (s03 _ _ e) hD3 (fun z => nomatch z))).trans (s03 _ _ e)
  · rintro H2 ⟨s2, ps, hD2, pr⟩
    rw [List.length_map, List.take_length] at pr
    refine ⟨D, ps, _, rfl, SqL.of hD2, tups_prT pr, fun q hq => k q _ (s1.trans (s2.trans (Same.new hq))) ((s1.trans s2).free hq) upd_same⟩
end
section
variable {P : Program} {w : World} {K : PySem.W.Frag} {mg : Str → Option Value} {base : Heap} {G : Addr}
def lastT (dd : Str) (s o : Str) : Str := if o = dd then "on" else s
def lastS : List Str := ["off", "on"]
theorem lastS_ok : Asc lastS ∧ ∀ s ∈ lastS, Wd s := by unfold Wd lastS; decide +kernel
theorem lastMV {ws : List Str} {dl : List (Str × Str)} (ok : DlOk ws dl) (asc : Asc (keysD dl)) (ne : keysD dl ≠ []) (dd : Str) : MV lastS (keysD dl) (lastT dd) where
  asc := lastS_ok.1
  ne := by unfold lastS; simp
  few := by show 2 < 64; decide
  wd := lastS_ok.2
  dsc := asc
  dne := ne
  dfew := by rw [keysD_len]; have := ok.few; omega
  dwd := ok.wd
  cl := fun s hs o _ => by
    unfold lastT
    split
    · unfold lastS; simp
    · exact hs
def spLast : Sp := fun vs H Q _ => ∃ (s td da tl : Addr) (ws : List Str) (f : Str → Str → Str) (dl : List (Str × Str)) (tw : List Str) (dd : Str), vs = [.ref s, .str dd] ∧ SetAt H s td da tl ws f dl tw ∧ ∀ q H', L2.Same H H' → H q = none → MvT H' q lastS (keysD dl) (lastT dd) → Q (.ref q) H'
abbrev nLast : List Str := ["_law_setting_here", "_law_deed", "_law_moves", "_law_state", "_law_late"]
theorem scLast : FnScope nLast ["_law_setting_here", "_law_deed"] (defScope sLast) := ⟨rfl, rfl, rfl, by decide +kernel, rfl, by decide +kernel, by decide +kernel⟩
theorem ok_last {g : Addr} {fd : FuncData} (F : Fun K "_law_last_store" "_law_last_store" sLast g fd) (Z : Blp mg) : FnOk P w K mg base CX0 1 g fd ["_law_setting_here", "_law_deed"] spLast := by
  refine F.ok scLast (fun vs H Q E h => ?_) (fun cdv A outer s H vs Q E hr h => ?_)
  · obtain ⟨s, td, da, tl, ws, f, dl, tw, dd, rfl, _⟩ := h
    rfl
  · obtain ⟨s0, td, da, tl, ws, f, dl, tw, dd, rfl, se, k⟩ := h
    have nd := scLast.nd
    refine ⟨_, pss_cons (ps_set (i := 2) nd rfl (Or.inl rfl) pe_dnewK)
      (pss_cons (ps_for PassesOwn.never rfl (pi_tup (pe_tup (pa_cons pe_str (pa_cons pe_str pa_nil)))) (pg_name (i := 3) nd rfl (Or.inr rfl))
        (pss_one (ps_dput (hu_of hr) (pv 2) (pv 3) (pe_callTy (cr_dictP rfl) (by rfl) Z.dict (by decide +kernel) (pa_cons (pe_lock
          (pe_lc (own := [("_law_late", 4)]) (g := gName 4) (tt := tYes) (te := tTup (tCons (tVar 4) (tCons (tCutE (tIf (tTest (tOp rEq (tVar 4) (tVar 1))) (tC (.str "on")) (tVar 3))) tNil))) rfl nd (pi_keys (pe_ix ix_list (pv 0) pe_int (fun _ _ => rfl))) (blkOk_by (own := [("_law_late", 4)]) (N := nLast) (sc := defScope sLast) (by decide +kernel))
            (fun _ _ _ _ _ => pg_name (i := 4) nd rfl (Or.inl rfl)) (fun _ _ _ _ _ => pts_nil) (fun _ _ _ _ _ => pe_tup (pa_cons (pv 4) (pa_cons (pe_cutE (pe_ifExp (pt_cmpR op_eq (pv 4) (pv 1) (nomark _)) pe_str (pv 3))) pa_nil))))) pa_nil)) rfl)))
      (pss_one (ps_ret (pv 2)))), ?_⟩
    refine fun d hd0 => ?_
    have s1 := Same.new (H := H) (o := .dK []) hd0
    have hd : upd H d (.dK []) d = some (.dK []) := upd_same
    generalize upd H d (.dK []) = H1 at s1 hd ⊢
    refine at_name (σ' := [some (.ref s0), some (.str dd), some (.ref d), none, none]) rfl ?_
    refine ⟨(by show 2 ≤ sizeLine; decide), fun tt htt0 => ?_⟩
    have s2 := Same.new (H := H1) (o := .tup [.str "off", .str "on"]) htt0
    have htt : upd H1 tt (.tup [.str "off", .str "on"]) tt = _ := upd_same
    generalize upd H1 tt (.tup [.str "off", .str "on"]) = H2 at s2 htt ⊢
    have b0 : Bld H2 d lastS 0 [] (rowT (keysD dl) (lastT dd)) := .nil (s2 _ _ hd)
    have ntd : tt ≠ d := ne_of htt b0.at' (by intro z; cases z)
    refine ⟨tt, rfl, ⟨_, SqT.of htt⟩, ?_⟩
    refine for_tup (K := K) (a := tt) (xs := lastS.map V.str) (fun i σ H' => ∃ x3, σ = [some (.ref s0), some (.str dd), some (.ref d), x3, none] ∧ L2.Same H H' ∧ H' tt = some (.tup (lastS.map V.str)) ∧ ∃ bs, Bld H' d lastS i bs (rowT (keysD dl) (lastT dd))) ?_ ?_ ?_ ?_
    · exact ⟨_, rfl, s1.trans s2, htt, [], b0⟩
    · rintro i σ H' _ ⟨x3, rfl, _, h, _⟩
      exact SqT.of h
    · rintro i v σ H3 hx ⟨x3, rfl, s3, htt3, bs, b3⟩
      obtain ⟨z, ez, rfl⟩ := str_get hx
      refine at_name (σ' := [some (.ref s0), some (.str dd), some (.ref d), some (.str z), none]) rfl ?_
      have se3 := se.mono s3
      have nsd : s0 ≠ da := ne_of se3.hs se3.hd (by intro z; cases z)
      show tCB (rDP K) (tCons (tLockE (tLc (iKeys (tOp (rIxL K) (tVar 0) (tC (.int 1)))) (gName 4) tYes _ [4])) tNil) _ _ _
      refine rdS_keysE (K := K) (xs := keysD dl) (kvs := dkv dl) (key := fun o => o) (val := fun o => .str (lastT dd z o)) (fun od R hh => ⟨_, rfl, s0, _, 1, _, rfl, rfl, SqL.of ((upd_ne nsd).trans se3.hs), atI_nat (j := 1) rfl, hh⟩) se3.hd (dkv_keys dl) (by rw [keysD_len]; have := se.ok.few; omega) ?_ ?_
      · intro o od H4 R ho s4 kR
        refine at_name (σ' := [some (.ref s0), some (.str dd), some (.ref d), some (.str z), some (.str o)]) rfl ⟨rfl, ?_⟩
        refine ⟨_, rfl, fun v H' => v = .str (lastT dd z o) ∧ H' = H4, ?_, ?_⟩
        · refine ⟨_, rfl, _, rfl, rfl, _, rfl, ?_⟩
          unfold lastT
          refine ite2 (fun c => ?_) (fun c => ?_)
          · have c : o = dd := by
              have := of_decide_eq_true c
              injection this
            exact ⟨by rw [if_pos c], rfl⟩
          · have c : ¬ o = dd := fun e => c (decide_eq_true (by rw [e]))
            exact ⟨_, rfl, by rw [if_neg c], rfl⟩
        rintro v H' ⟨rfl, rfl⟩
        exact ⟨(by show 2 ≤ sizeLine; decide), fun tq htq0 => kR tq _ (Same.new htq0) upd_same⟩
      · intro q H4 s4 hq0 hq
        rw [mergeK_strs se.ok.nd] at hq
        have hq2 : H4 q = some (.dK (dkv (rowT (keysD dl) (lastT dd) z))) := by
          rw [hq]
          unfold dkv rowT
          rw [List.map_map]; rfl
        obtain ⟨h1, h2, h3⟩ := b3.put lastS_ok.1.nodup ez (.inl s4) hq0 hq2 (by show 2 ≤ 100; decide)
        refine ⟨_, rfl, _, rfl, d, _, rfl, DPut.k (k := Sum.inr z) h1 h2, ?_⟩
        exact ⟨_, rfl, fun c o e => (upd_ne (ne_of_none e hd0)).trans (s4 _ _ (s3 _ _ e)), (upd_ne ntd).trans (s4 _ _ htt3), _, h3⟩
    · rintro σ H3 ⟨x3, rfl, s3, _, bs, b3⟩
      have m3 : MvAt H3 d lastS bs (rowT (keysD dl) (lastT dd)) := Bld.full b3
      refine ⟨_, rfl, k d H3 s3 hd0 ⟨lastS, bs, _, m3, List.Perm.refl _, fun s _ => ⟨by rw [rowT_keys], fun o ho => kof_rowT se.ok.nd _ s ho⟩⟩⟩
end
end KT
set_option Elab.async false
set_option linter.all false
set_option maxRecDepth 100000
set_option maxHeartbeats 4000000
set_option pp.maxSteps 900
namespace KT
open PySem L2 PyProof.Rows DTp TxS DKq
def kStL : List Str := ["k", "kk", "kkk", "kkkk"]
theorem kStL_mul : ∀ i : Nat, i < 4 → kStL[i]? = some (Txt.mul "k" ((i : Int) + 1)) := by decide +kernel
theorem mul_okk (i : Nat) (h : i < 4) : MulOk "k" ((i : Int) + 1) := by
  have : i = 0 ∨ i = 1 ∨ i = 2 ∨ i = 3 := by omega
  rcases this with rfl | rfl | rfl | rfl <;> exact ⟨by decide, fun _ _ => by decide, fun _ _ => rfl⟩
def kW (ws : List Str) (x : Str) : Str := (kStL[ws.idxOf x]?).getD "k"
def kSts (m : Nat) : List Str := "begin" :: kStL.take m
theorem kSts_ok : ∀ m, m ≤ 4 → (kSts m).Nodup ∧ ∀ s ∈ kSts m, Wd s := by unfold Wd kSts; decide +kernel
theorem kSts_asc : ∀ m, m ≤ 4 → Asc (kSts m) := by unfold kSts; decide +kernel
theorem kStL_nb : ∀ s ∈ kStL, s ≠ "begin" := by decide +kernel
theorem kStL_nd : kStL.Nodup := by decide +kernel
section
variable {ws : List Str} {f : Str → Str → Str} {dl : List (Str × Str)} {tw : List Str}
theorem kW_at (kw : KW ws f) {i : Nat} {x : Str} (h : ws[i]? = some x) : kStL[i]? = some (kW ws x) := by
  have hi := (List.getElem?_eq_some_iff.mp h).1
  have few := kw.few
  unfold kW
  rw [idx_at kw.asc.nodup h]
  obtain ⟨y, hy⟩ : ∃ y, kStL[i]? = some y := ⟨_, List.getElem?_eq_getElem (by show i < 4; omega)⟩
  rw [hy]; rfl
theorem kW_map (kw : KW ws f) : ("begin" : Str) :: ws.map (kW ws) = kSts ws.length := by
  unfold kSts
  congr 1
  refine List.ext_getElem? fun i => ?_
  rw [List.getElem?_map, List.getElem?_take]
  have few := kw.few
  by_cases hi : i < ws.length
  · rw [if_pos hi]
    obtain ⟨x, hx⟩ : ∃ x, ws[i]? = some x := ⟨_, List.getElem?_eq_getElem hi⟩
    rw [hx, kW_at kw hx]; rfl
  · rw [if_neg hi, List.getElem?_eq_none (by omega)]; rfl
theorem kW_mem (kw : KW ws f) {x : Str} (h : x ∈ ws) : kW ws x ∈ kStL := by
  obtain ⟨i, hi⟩ := List.mem_iff_getElem?.mp h
  exact List.mem_of_getElem? (kW_at kw hi)
theorem kW_inj (kw : KW ws f) {x y : Str} (hx : x ∈ ws) (hy : y ∈ ws) (e : kW ws x = kW ws y) : x = y := by
  obtain ⟨i, hi⟩ := List.mem_iff_getElem?.mp hx
  obtain ⟨j, hj⟩ := List.mem_iff_getElem?.mp hy
  have h1 := kW_at kw hi
  have h2 := kW_at kw hj
  rw [e] at h1
  have := (List.getElem?_inj (List.getElem?_eq_some_iff.mp h1).1 kStL_nd).mp (h1.trans h2.symm)
  subst this
  exact Option.some.inj (hi.symm.trans hj)
def unW (ws : List Str) (s : Str) : Str := (ws.find? fun x => decide (kW ws x = s)).getD ⟨#[]⟩
theorem unW_of (kw : KW ws f) {x : Str} (h : x ∈ ws) : unW ws (kW ws x) = x := by
  unfold unW
  cases e : ws.find? fun y => decide (kW ws y = kW ws x) with
  | none => exact absurd (List.find?_eq_none.mp e x h) (by simp)
  | some y =>
    have h1 := List.mem_of_find?_eq_some e
    have h2 : kW ws y = kW ws x := by
      have := List.find?_some e
      exact of_decide_eq_true this
    exact kW_inj kw h1 h h2
def kT (ws : List Str) (f : Str → Str → Str) (dl : List (Str × Str)) (s o : Str) : Str := if s = "begin" then kW ws (kof dl o) else kW ws (f (unW ws s) (kof dl o))
theorem keptMV (kw : KW ws f) (ok : DlOk ws dl) (asc : Asc (keysD dl)) (ne : keysD dl ≠ []) : MV (kSts ws.length) (keysD dl) (kT ws f dl) where
  asc := kSts_asc _ kw.few
  ne := by unfold kSts; simp
  few := by
    rw [← kW_map kw, List.length_cons, List.length_map]
    have := kw.few
    omega
  wd := (kSts_ok _ kw.few).2
  dsc := asc
  dne := ne
  dfew := by rw [keysD_len]; have := ok.few; omega
  dwd := ok.wd
  cl := fun s hs o ho => by
    rw [← kW_map kw] at hs ⊢
    have hk := ok.kof ho
    unfold kT
    by_cases e : s = "begin"
    · rw [if_pos e]
      exact List.mem_cons_of_mem _ (List.mem_map.mpr ⟨_, hk, rfl⟩)
    · rw [if_neg e]
      rcases List.mem_cons.mp hs with h | h
      · exact absurd h e
      · obtain ⟨x, hx, rfl⟩ := List.mem_map.mp h
        rw [unW_of kw hx]
        exact List.mem_cons_of_mem _ (List.mem_map.mpr ⟨_, kw.cl _ _ hx hk, rfl⟩)
end
section
variable {P : Program} {w : World} {K : PySem.W.Frag} {mg : Str → Option Value} {base : Heap} {G : Addr}
def spKM : Sp := fun vs H Q _ => ∃ (s td da tl : Addr) (ws : List Str) (f : Str → Str → Str) (dl : List (Str × Str)) (tw : List Str), vs = [.ref s] ∧ SetAt H s td da tl ws f dl tw ∧ ∀ q H', L2.Same H H' → H q = none → MvT H' q (kSts ws.length) (keysD dl) (kT ws f dl) → Q (.ref q) H'
abbrev nKM : List Str := ["_law_setting_here", "_law_moves", "_law_kinds", "_law_kind", "_law_states", "_law_at", "_law_deed"]
theorem scKM : FnScope nKM ["_law_setting_here"] (defScope sKept) := ⟨rfl, rfl, rfl, by decide +kernel, rfl, by decide +kernel, by decide +kernel⟩
theorem ok_keptM {g : Addr} {fd : FuncData} (F : Fun K "_law_kept_store" "_law_kept_store" sKept g fd) (Z : Blp mg) (hen : mg "enumerate" = none) (M : Cee P w K mg base 1 "_law_kinds_of" ["_law_table_here"] spKindsOf) : FnOk P w K mg base CX0 2 g fd ["_law_setting_here"] spKM := by
  refine F.ok scKM (fun vs H Q E h => ?_) (fun cdv A outer s H vs Q E hr h => ?_)
  · obtain ⟨s, td, da, tl, ws, f, dl, tw, rfl, _⟩ := h
    rfl
  · obtain ⟨s0, td, da, tl, ws, f, dl, tw, rfl, se, k⟩ := h
    have nd := scKM.nd
    refine ⟨_, pss_cons (ps_par (i := 1) (j := 2) rfl nd rfl rfl (by decide) rfl rfl (pa_cons pe_dnewK (pa_cons (pe_c M hr rfl (pa_cons (pe_ix ix_list (pv 0) pe_int (fun _ _ => rfl)) pa_nil)) pa_nil)) (by rfl))
      (pss_cons (ps_set (i := 4) nd rfl (Or.inr rfl) (pe_callTy (cr_dictP rfl) (by rfl) Z.dict (by decide +kernel) (pa_cons
          (pe_lc (own := [("_law_at", 5), ("_law_kind", 3)]) (g := gXY K 5 3) (tt := tYes) (te := tTup (tCons (tVar 3) (tCons (tOp (fun x y H Q => ∃ (z : Str) (n : Int), x = .str z ∧ y = .int n ∧ MulOk z n ∧ Q (.str (Txt.mul z n)) H) (tC (.str "k")) (tOp (rI0 fun i j => .int (i + j)) (tVar 5) (tC (.int 1)))) tNil))) rfl nd (pi_enum (by rfl) hen (pa_cons (pv 2) pa_nil)) (blkOk_by (own := [("_law_at", 5), ("_law_kind", 3)]) (N := nKM) (sc := defScope sKept) (by decide +kernel))
            (fun _ _ _ _ _ => pg_tup rfl (pgs_cons (pg_name (i := 5) nd rfl (Or.inl rfl)) (pgs_cons (pg_name (i := 3) nd rfl (Or.inl rfl)) pgs_nil))) (fun _ _ _ _ _ => pts_nil) (fun _ _ _ _ _ => pe_tup (pa_cons (pv 3) (pa_cons (pe_op SmR.op_mulSI pe_str (pe_op op_add (pv 5) pe_int)) pa_nil)))) pa_nil)))
      (pss_cons (ps_dput (hu_of hr) (pv 1) pe_str (pe_callTy (cr_dictP rfl) (by rfl) Z.dict (by decide +kernel) (pa_cons (pe_lock
          (pe_lc (own := [("_law_deed", 6)]) (g := gName 6) (tt := tYes) (te := tTup (tCons (tVar 6) (tCons (tDGet (tVar 4) (tDGet (tOp (rIxL K) (tVar 0) (tC (.int 1))) (tVar 6))) tNil))) rfl nd (pi_keys (pe_ix ix_list (pv 0) pe_int (fun _ _ => rfl))) (blkOk_by (own := [("_law_deed", 6)]) (N := nKM) (sc := defScope sKept) (by decide +kernel))
            (fun _ _ _ _ _ => pg_name (i := 6) nd rfl (Or.inl rfl)) (fun _ _ _ _ _ => pts_nil) (fun _ _ _ _ _ => pe_tup (pa_cons (pv 6) (pa_cons (pe_dget (hu_of hr) (pv 4) (pe_dget (hu_of hr) (pe_ix ix_list (pv 0) pe_int (fun _ _ => rfl)) (pv 6) (fun _ _ => rfl)) (fun _ _ => rfl)) pa_nil))))) pa_nil)) rfl)
      (pss_cons (ps_for PassesOwn.never rfl (pi_list (pv 2)) (pg_name (i := 3) nd rfl (Or.inr rfl))
        (pss_one (ps_dput (hu_of hr) (pv 1) (pe_dget (hu_of hr) (pv 4) (pv 3) (fun _ _ => rfl)) (pe_callTy (cr_dictP rfl) (by rfl) Z.dict (by decide +kernel) (pa_cons (pe_lock
          (pe_lc (own := [("_law_deed", 6)]) (g := gName 6) (tt := tYes) (te := tTup (tCons (tVar 6) (tCons (tDGet (tVar 4) (tDGet (tOp (rIxL K) (tVar 0) (tC (.int 0))) (tTup (tCons (tVar 3) (tCons (tDGet (tOp (rIxL K) (tVar 0) (tC (.int 1))) (tVar 6)) tNil))))) tNil))) rfl nd (pi_keys (pe_ix ix_list (pv 0) pe_int (fun _ _ => rfl))) (blkOk_by (own := [("_law_deed", 6)]) (N := nKM) (sc := defScope sKept) (by decide +kernel))
            (fun _ _ _ _ _ => pg_name (i := 6) nd rfl (Or.inl rfl)) (fun _ _ _ _ _ => pts_nil)
            (fun _ _ _ _ _ => pe_tup (pa_cons (pv 6) (pa_cons (pe_dget (hu_of hr) (pv 4) (pe_dget (hu_of hr) (pe_ix ix_list (pv 0) pe_int (fun _ _ => rfl)) (pe_tup (pa_cons (pv 3) (pa_cons (pe_dget (hu_of hr) (pe_ix ix_list (pv 0) pe_int (fun _ _ => rfl)) (pv 6) (fun _ _ => rfl)) pa_nil))) (fun _ _ => rfl)) (fun _ _ => rfl)) pa_nil))))) pa_nil)) rfl)))
      (pss_one (ps_ret (pv 1)))))), ?_⟩
    have kw := se.kw
    have few := kw.few
    have nws := kw.asc.nodup
    have ldl : (keysD dl).length ≤ 8 := by rw [keysD_len]; exact se.ok.few
    refine fun d hd0 => ?_
    have s1 := Same.new (H := H) (o := .dK []) hd0
    have hd : upd H d (.dK []) d = some (.dK []) := upd_same
    generalize upd H d (.dK []) = H1 at s1 hd ⊢
    refine ⟨_, rfl, s0, _, 0, _, rfl, rfl, SqL.of (s1 _ _ se.hs), atI_nat (j := 0) rfl, td, ws, f, rfl, s1 _ _ se.ht, kw, fun kq H2 s2 hkq0 hkq => ⟨_, _, rfl, ?_⟩⟩
    refine at_slots (σ' := [some (.ref s0), some (.ref d), some (.ref kq), none, none, none, none]) rfl ?_
    have s02 := s1.trans s2
    have hd2 := s2 _ _ hd
    -- states
    show tCB (rDP K) (tCons (tLc (iEnum K (tCons (tVar 2) tNil)) (gXY K 5 3) tYes _ [5, 3]) tNil) _ _ _
    refine rdS_enum (K := K) (xs := ws) (key := fun x => x) (val := fun x => .str (kW ws x)) (by omega) ?_ ?_ ?_
    · intro R hR
      exact ⟨_, rfl, hR kq H2 (fun _ _ e => e) hkq⟩
    · intro i x T H3 R ex s3 hT kR
      have hi := (List.getElem?_eq_some_iff.mp ex).1
      refine ⟨T, _, rfl, SqT.of hT, rfl, _, _, rfl, ?_⟩
      refine at_name (σ' := [some (.ref s0), some (.ref d), some (.ref kq), none, none, some (.int (i : Nat)), none]) rfl ?_
      refine ⟨_, _, rfl, ?_⟩
      refine at_name (σ' := [some (.ref s0), some (.ref d), some (.ref kq), some (.str x), none, some (.int (i : Nat)), none]) rfl ⟨rfl, rfl, ?_⟩
      refine ⟨_, rfl, _, rfl, _, _, rfl, rfl, "k", _, rfl, rfl, mul_okk i (by omega), (by show 2 ≤ sizeLine; decide), fun t ht0 => ?_⟩
      refine kR t _ (Same.new ht0) ?_
      rw [upd_same]
      have e1 := kStL_mul i (by omega)
      rw [kW_at kw ex] at e1
      rw [Option.some.inj e1]
    intro sq H3 s3 hsq0 hsq
    rw [mergeK_strs nws] at hsq
    refine at_name (σ' := [some (.ref s0), some (.ref d), some (.ref kq), none, some (.ref sq), none, none]) rfl ?_
    have s03 := s02.trans s3
    have hd3 := s3 _ _ hd2
    obtain ⟨sk, esk⟩ : ∃ sk : List (Key × V), sk = ws.map fun x => (Sum.inr x, V.str (kW ws x)) := ⟨_, rfl⟩
    rw [← esk] at hsq
    have sget : ∀ {x : Str}, x ∈ ws → valV sk (Sum.inr x) = some (.str (kW ws x)) := fun {x} hx => by
      rw [esk]
      exact valV_mem (by rw [List.map_map]; exact inr_nodup nws) (List.mem_map.mpr ⟨x, hx, rfl⟩)
    obtain ⟨ss, ess⟩ : ∃ ss, ss = kSts ws.length := ⟨_, rfl⟩
    have nss : ss.Nodup := by rw [ess]; exact (kSts_ok _ few).1
    have lss : ss.length ≤ 100 := by rw [ess, ← kW_map kw, List.length_cons, List.length_map]; omega
    have sat : ∀ {i : Nat} {x : Str}, ws[i]? = some x → ss[i + 1]? = some (kW ws x) := fun {i x} h => by
      rw [ess, ← kW_map kw, List.getElem?_cons_succ, List.getElem?_map, h]; rfl
    obtain ⟨row, erow⟩ : ∃ row, row = rowT (keysD dl) (kT ws f dl) := ⟨_, rfl⟩
    have nsd : ∀ {H' : Hp}, L2.Same H H' → s0 ≠ da := fun s => ne_of (s _ _ se.hs) (s _ _ se.hd) (by intro z; cases z)
    have nsd := nsd s03
    have b3 : Bld H3 d ss 0 [] row := .nil hd3
    have se3 := se.mono s03
    have nsq : sq ≠ da := fun e => by rw [e, s02 _ _ se.hd] at hsq0; cases hsq0
    have ntd : td ≠ da := ne_of se3.ht se3.hd (by intro z; cases z)
    show tCB (rDP K) (tCons (tLockE (tLc (iKeys (tOp (rIxL K) (tVar 0) (tC (.int 1)))) (gName 6) tYes _ [6])) tNil) _ _ _
    refine rdS_keysE (K := K) (xs := keysD dl) (kvs := dkv dl) (key := fun o => o) (val := fun o => .str (kT ws f dl "begin" o)) (fun od R hh => ⟨_, rfl, s0, _, 1, _, rfl, rfl, SqL.of ((upd_ne nsd).trans se3.hs), atI_nat (j := 1) rfl, hh⟩) se3.hd (dkv_keys dl) (by omega) ?_ ?_
    · intro o od H4 R ho s4 kR
      refine at_name (σ' := [some (.ref s0), some (.ref d), some (.ref kq), none, some (.ref sq), none, some (.str o)]) rfl ⟨rfl, ?_⟩
      have dg1 : DGet H4 da (.str o) (some (.str (kof dl o))) := .inl ⟨_, Sum.inr o, .inr ⟨od, s4 _ _ upd_same⟩, rfl, (valV_dkv se.ok.nd ho).symm⟩
      have dg2 := DGet.k (k := Sum.inr (kof dl o)) (s4 _ _ ((upd_ne nsq).trans hsq))
      rw [sget (se.ok.kof ho)] at dg2
      refine ⟨_, rfl, _, rfl, _, rfl, s0, _, 1, _, rfl, rfl, SqL.of (s4 _ _ ((upd_ne nsd).trans se3.hs)), atI_nat (j := 1) rfl, _, rfl, da, _, rfl, dg1, sq, _, rfl, dg2, (by show 2 ≤ sizeLine; decide), fun tq htq0 => kR tq _ (Same.new htq0) ?_⟩
      rw [upd_same]
      unfold kT
      rw [if_pos rfl]
    intro q0 H4 s4 hq00 hq0
    rw [mergeK_strs se.ok.nd] at hq0
    have hq2 : H4 q0 = some (.dK (dkv (row "begin"))) := by
      rw [hq0, erow]
      unfold dkv rowT
      rw [List.map_map]; rfl
    have eb : ss[0]? = some ("begin" : Str) := by rw [ess]; rfl
    obtain ⟨h1, h2, b4⟩ := b3.put nss eb (.inl s4) hq00 hq2 lss
    refine ⟨_, rfl, d, _, rfl, DPut.k (k := Sum.inr "begin") h1 h2, ?_⟩
    have s04 : L2.Same H (upd H4 d (.dK (putK (mvK (ss.take 0) []) (Sum.inr "begin") (.ref q0)))) := fun c o e => (upd_ne (ne_of_none e hd0)).trans (s4 _ _ (s03 _ _ e))
    have nkd : kq ≠ d := ne_of (s3 _ _ hkq) hd3 (by intro z; cases z)
    have nsqd : sq ≠ d := fun e => by rw [e, hd2] at hsq0; cases hsq0
    have hkq4 : upd H4 d (.dK (putK (mvK (ss.take 0) []) (Sum.inr "begin") (.ref q0))) kq = some (.lst (ws.map V.str)) := (upd_ne nkd).trans (s4 _ _ (s3 _ _ hkq))
    have hsq4 : upd H4 d (.dK (putK (mvK (ss.take 0) []) (Sum.inr "begin") (.ref q0))) sq = some (.dK sk) := (upd_ne nsqd).trans (s4 _ _ hsq)
    generalize upd H4 d (.dK (putK (mvK (ss.take 0) []) (Sum.inr "begin") (.ref q0))) = H5 at b4 s04 hkq4 hsq4 ⊢
    refine ⟨_, rfl, kq, rfl, ⟨_, SqL.of hkq4⟩, ?_⟩
    refine for_list (K := K) (a := kq) (xs := ws.map V.str) (fun i σ H' => ∃ x3, σ = [some (.ref s0), some (.ref d), some (.ref kq), x3, some (.ref sq), none, none] ∧ L2.Same H H' ∧ H' kq = some (.lst (ws.map V.str)) ∧ H' sq = some (.dK sk) ∧ ∃ bs, Bld H' d ss (i + 1) bs row) ?_ ?_ ?_ ?_
    · exact ⟨_, rfl, s04, hkq4, hsq4, _, b4⟩
    · rintro i σ H' _ ⟨x3, rfl, _, h, _⟩
      exact SqL.of h
    · rintro i v σ H6 hx ⟨x3, rfl, s6, hkq6, hsq6, bs, b6⟩
      obtain ⟨x, ex, rfl⟩ := str_get hx
      have mx := List.mem_of_getElem? ex
      refine at_name (σ' := [some (.ref s0), some (.ref d), some (.ref kq), some (.str x), some (.ref sq), none, none]) rfl ?_
      have se6 := se.mono s6
      show tCB (rDP K) (tCons (tLockE (tLc (iKeys (tOp (rIxL K) (tVar 0) (tC (.int 1)))) (gName 6) tYes _ [6])) tNil) _ _ _
      refine rdS_keysE (K := K) (xs := keysD dl) (kvs := dkv dl) (key := fun o => o) (val := fun o => .str (kT ws f dl (kW ws x) o)) (fun od R hh => ⟨_, rfl, s0, _, 1, _, rfl, rfl, SqL.of ((upd_ne nsd).trans se6.hs), atI_nat (j := 1) rfl, hh⟩) se6.hd (dkv_keys dl) (by omega) ?_ ?_
      · intro o od H7 R ho s7 kR
        refine at_name (σ' := [some (.ref s0), some (.ref d), some (.ref kq), some (.str x), some (.ref sq), none, some (.str o)]) rfl ⟨rfl, ?_⟩
        have mk := se.ok.kof ho
        have dg1 : DGet H7 da (.str o) (some (.str (kof dl o))) := .inl ⟨_, Sum.inr o, .inr ⟨od, s7 _ _ upd_same⟩, rfl, (valV_dkv se.ok.nd ho).symm⟩
        have hs7 := s7 _ _ ((upd_ne nsd).trans se6.hs)
        have ht7 := s7 _ _ ((upd_ne ntd).trans se6.ht)
        refine ⟨_, rfl, _, rfl, _, rfl, s0, _, 0, _, rfl, rfl, SqL.of hs7, atI_nat (j := 0) rfl, _, rfl, _, rfl, s0, _, 1, _, rfl, rfl, SqL.of hs7, atI_nat (j := 1) rfl, _, rfl, da, _, rfl, dg1, (by show 2 ≤ sizeLine; decide), fun tu htu0 => ?_⟩
        have s8 := Same.new (H := H7) (o := .tup [.str x, .str (kof dl o)]) htu0
        have htu : upd H7 tu (.tup [.str x, .str (kof dl o)]) tu = some (.tup ((keyP (x, kof dl o)).map kV)) := upd_same
        generalize upd H7 tu (.tup [.str x, .str (kof dl o)]) = H8 at s8 htu ⊢
        have dg3 : DGet H8 td (.ref tu) (some (.str (f x (kof dl o)))) := by
          have := DGet.t (s8 _ _ ht7) htu
          rw [valV_tabW nws mx mk] at this
          exact this
        have dg4 := DGet.k (k := Sum.inr (f x (kof dl o))) (s8 _ _ (s7 _ _ ((upd_ne nsq).trans hsq6)))
        rw [sget (kw.cl _ _ mx mk)] at dg4
        refine ⟨td, _, rfl, dg3, sq, _, rfl, dg4, (by show 2 ≤ sizeLine; decide), fun tq htq0 => kR tq _ (fun b o e => (Same.new htq0) _ _ (s8 _ _ e)) ?_⟩
        rw [upd_same]
        unfold kT
        rw [if_neg (kStL_nb _ (kW_mem kw mx)), unW_of kw mx]
      · intro q H7 s7 hq0 hq
        rw [mergeK_strs se.ok.nd] at hq
        have hq2 : H7 q = some (.dK (dkv (row (kW ws x)))) := by
          rw [hq, erow]
          unfold dkv rowT
          rw [List.map_map]; rfl
        obtain ⟨h1, h2, b7⟩ := b6.put nss (sat ex) (.inl s7) hq0 hq2 lss
        have dg := DGet.k (k := Sum.inr x) (s7 _ _ hsq6)
        rw [sget mx] at dg
        refine ⟨_, rfl, _, rfl, _, rfl, sq, _, rfl, dg, d, _, rfl, DPut.k (k := Sum.inr (kW ws x)) h1 h2, ?_⟩
        exact ⟨_, rfl, fun c o e => (upd_ne (ne_of_none e hd0)).trans (s7 _ _ (s6 _ _ e)), (upd_ne nkd).trans (s7 _ _ hkq6), (upd_ne nsqd).trans (s7 _ _ hsq6), _, b7⟩
    · rintro σ H6 ⟨x3, rfl, s6, _, _, bs, b6⟩
      have el : (ws.map V.str).length + 1 = ss.length := by rw [ess, ← kW_map kw, List.length_cons, List.length_map, List.length_map]
      rw [el] at b6
      have m6 := Bld.full b6
      rw [erow] at m6
      rw [ess] at m6
      exact ⟨_, rfl, k d H6 s6 hd0 ⟨_, bs, _, m6, List.Perm.refl _, fun s _ => ⟨by rw [rowT_keys], fun o ho => kof_rowT se.ok.nd _ s ho⟩⟩⟩
end
end KT
set_option Elab.async false
set_option linter.all false
set_option maxRecDepth 100000
set_option maxHeartbeats 4000000
set_option pp.maxSteps 900
namespace KT
open PySem L2 PyProof.Rows DTp TxS DKq
theorem Bld.row {H : Hp} {d : Addr} {ss : List Str} {i : Nat} {bs : List Addr} {row row' : Str → List (Str × Str)} (h : Bld H d ss i bs row) (e : ∀ s ∈ ss.take i, row' s = row s) : Bld H d ss i bs row' := ⟨h.at', ⟨h.inn.len, fun j s b h1 h2 => by rw [e s (List.mem_of_getElem? h1)]; exact h.inn.inn j s b h1 h2⟩, h.nd⟩
theorem Bld.but {H H' : Hp} {d p : Addr} {B : Int} {ss : List Str} {i : Nat} {bs : List Addr} {row : Str → List (Str × Str)} (h : Bld H d ss i bs row) (hP : PurseAt H p B) (bt : But p H H') : Bld H' d ss i bs row ∧ d ≠ p ∧ ∀ b ∈ bs, b ≠ p := by
  obtain ⟨a1, b1, c1, d1, e, _⟩ := hP
  have n1 : d ≠ p := ne_of h.at' e (by intro z; cases z)
  have n2 : ∀ b ∈ bs, b ≠ p := fun b hb => by
    obtain ⟨j, hj⟩ := List.mem_iff_getElem?.mp hb
    have hlt := (List.getElem?_eq_some_iff.mp hj).1
    obtain ⟨s, hs⟩ : ∃ s, (ss.take i)[j]? = some s := ⟨_, List.getElem?_eq_getElem (by rw [← h.inn.len]; exact hlt)⟩
    exact ne_of (h.inn.inn j s b hs hj) e (by intro z; cases z)
  exact ⟨⟨bt _ _ n1 h.at', ⟨h.inn.len, fun j s b h1 h2 => bt _ _ (n2 b (List.mem_of_getElem? h2)) (h.inn.inn j s b h1 h2)⟩, h.nd⟩, n1, n2⟩
section
variable {K : PySem.W.Frag}
/-- dict([(text, a drawn text) for text in dict]) -/
theorem rdP_keys {p : Addr} {B : Int} {S : List Str} {te0 : TE} {g : TG} {te : TE} {vs : List Nat} {σ : L2.St} {H : Hp} {Q : VK} {d : Addr} {kvs : List (Key × V)} {xs : List Str} (hi : ∀ od (R : VK), R (.ref d) (upd H d (.frz od (.dK kvs))) → te0 σ (upd H d (.frz od (.dK kvs))) R) (hd : H d = some (.dK kvs)) (hP : PurseAt H p B)
    (ek : kvs.map (·.1) = xs.map Sum.inr) (few : xs.length ≤ 1000) (ndx : xs.Nodup)
    (step : ∀ (n : Nat) x od H1 (R : VK), n < xs.length → x ∈ xs → But p (upd H d (.frz od (.dK kvs))) H1 → PurseAt H1 p (B + 4 * n) → (∀ t y H3, But p H1 H3 → PurseAt H3 p (B + 4 * (n + 1 : Nat)) → y ∈ S → H3 t = some (.tup [.str x, .str y]) → R (.ref t) H3) → g (.str x) (wipe σ vs) H1 fun σ2 H2 => wipe σ2 vs = wipe σ vs ∧ te σ2 H2 R)
    (k : ∀ q (ys : List Str) H', But p H H' → PurseAt H' p (B + 4 * (xs.length : Nat)) → H q = none → ys.length = xs.length → (∀ y ∈ ys, y ∈ S) → H' q = some (.dK (dkv (xs.zip ys))) → Q (.ref q) H') :
    tCB (rDP K) (tCons (tLockE (tLc (iKeys te0) g tYes te vs)) tNil) σ H Q := by
  have lk : kvs.length = xs.length := by have := congrArg List.length ek; rw [List.length_map, List.length_map] at this; exact this
  have npd : p ≠ d := by
    obtain ⟨a1, b1, c1, d1, e, _⟩ := hP
    exact ne_of e hd (by intro z; cases z)
  refine ⟨d, .dK kvs, hd, trivial, fun od => ?_⟩
  refine hi od _ ⟨d, od, rfl, .inl ⟨kvs, upd_same, fun D hD => ?_⟩⟩
  have nDd : D ≠ d := fun e => by rw [e, upd_same] at hD; cases hD
  have hD0 : H D = none := by rw [upd_ne nDd] at hD; exact hD
  have hP1 : PurseAt (upd H d (.frz od (.dK kvs))) p B := hP.upd npd
  have npD : p ≠ D := hP1.ne hD
  refine lc_it walk_keys (fun n H' => But p (upd H d (.frz od (.dK kvs))) H' ∧ PurseAt H' p (B + 4 * (n : Nat)) ∧ ∃ (ps : List Addr) (ys : List Str), H' D = some (.lst (ps.map V.ref)) ∧ ys.length = n ∧ (∀ y ∈ ys, y ∈ S) ∧ Paired (fun t (q : Str × Str) => H' t = some (.tup [.str q.1, .str q.2])) ps ((xs.take n).zip ys)) ?_ ?_ ?_ ?_
  · exact ⟨(But.refl _ _).new hD, (hP1.upd npD).le (by omega), [], [], upd_same, rfl, (fun y hy => by cases hy), by rw [List.take_zero]; exact .nil⟩
  · rintro i H2 _ ⟨b2, _⟩
    exact b2 _ _ (Ne.symm npd) upd_same
  · rintro n v H2' H2 hn ⟨b2, hP2, ps, ys, hD2, ly, mys, pr⟩ ⟨rfl, kk, v2, hk, rfl⟩
    have hx : (kvs.map (·.1))[n]? = some kk := by rw [List.getElem?_map, hk]; rfl
    rw [ek, List.getElem?_map] at hx
    cases ex : xs[n]? with
    | none => rw [ex] at hx; cases hx
    | some x =>
      rw [ex] at hx
      obtain rfl : Sum.inr x = kk := Option.some.inj hx
      refine step n x od H2 _ (by omega) (List.mem_of_getElem? ex) b2 hP2 fun t y H3 b3 hP3 my ht => ?_
      have hD3 := b3 _ _ (Ne.symm npD) hD2
      have ntD : t ≠ D := ne_of ht hD3 (fun z => nomatch z)
      have lt : (xs.take n).length = n := by rw [List.length_take]; omega
      have lp : ps.length = n := by rw [Paired.length pr, List.length_zip, lt, ly]; omega
      have ntp : ∀ a (q : Str × Str), H2 a = some (.tup [.str q.1, .str q.2]) → a ≠ p := fun a q e => by
        obtain ⟨a1, b1, c1, d1, e1, _⟩ := hP2
        exact ne_of e e1 (by intro z; cases z)
      refine ⟨_, hD3, by rw [List.length_map, lp]; exact small1000 (by omega), (fun b o nb e => by rw [upd_ne (ne_of_none e hD)]; exact b3 _ _ nb (b2 _ _ nb e)), hP3.upd npD, ps ++ [t], ys ++ [y], by rw [upd_same, List.map_append]; rfl, by rw [List.length_append, ly]; rfl, ?_, ?_⟩
      · intro u hu
        rcases List.mem_append.mp hu with h | h
        · exact mys u h
        · rw [List.mem_singleton.mp h]; exact my
      · rw [take_next' ex, List.zip_append (by rw [lt, ly])]
        refine paired_snoc (Paired.mapP pr fun a q e => ?_) ((upd_ne ntD).trans ht)
        have e3 := b3 _ _ (ntp a q e) e
        exact (upd_ne (ne_of e3 hD3 (fun z => nomatch z))).trans e3
  · rintro H1 ⟨b1, hP1', ps, ys, hD1, ly, mys, pr⟩
    rw [lk] at hP1' ly
    rw [lk, List.take_length] at pr
    have hdl : H1 d = some (.frz od (.dK kvs)) := b1 _ _ (Ne.symm npd) upd_same
    have back : But p H (upd H1 d (.dK kvs)) := fun b o nb e => by
      by_cases hb : b = d
      · rw [hb] at e ⊢
        rw [hd] at e
        rw [upd_same]; exact e
      · rw [upd_ne hb]
        exact b1 _ _ nb ((upd_ne hb).trans e)
    refine ⟨hdl, D, ps, dkv (xs.zip ys), rfl, SqL.of ((upd_ne nDd).trans hD1), ?_, fun q hq => ?_⟩
    · refine tups_dkv (Paired.mapP pr fun t q e => ?_)
      exact (upd_ne (ne_of e hdl (fun z => nomatch z))).trans e
    · have nq : H q = none := by
        cases e : H q with
        | none => rfl
        | some o =>
          by_cases hqp : q = p
          · obtain ⟨a1, b1, c1, d1, e1, _⟩ := (hP1'.upd npd : PurseAt (upd H1 d (.dK kvs)) p _)
            rw [hqp, e1] at hq; cases hq
          · rw [back q o hqp e] at hq; cases hq
      have kz : keysD (xs.zip ys) = xs := List.map_fst_zip (by omega)
      rw [mergeK_dkv (by rw [kz]; exact ndx)]
      exact k q ys _ (back.new hq) ((hP1'.upd npd).upd ((hP1'.upd npd).ne hq)) nq ly mys upd_same
end
end KT
set_option Elab.async false
set_option linter.all false
set_option maxRecDepth 100000
set_option maxHeartbeats 4000000
set_option pp.maxSteps 900
namespace KT
open PySem L2 PyProof.Rows DTp TxS DKq
section
variable {P : Program} {w : World} {K : PySem.W.Frag} {mg : Str → Option Value} {base : Heap} {G : Addr}
/-- moves of some states over a setting's deeds, made behind H -/
def SomeMv (H0 H' : Hp) (ds : List Str) (q : Addr) : Prop := ∃ (sts : List Str) (t : Str → Str → Str), MvT H' q sts ds t ∧ MV sts ds t ∧ sts.length ≤ 6
def spDrawnMv : Sp := fun vs H Q _ => ∃ (p s td da tl : Addr) (B : Int) (ws : List Str) (f : Str → Str → Str) (dl : List (Str × Str)) (tw : List Str), vs = [.ref p, .ref s, .int 4] ∧ PurseAt H p B ∧ 0 ≤ B ∧ B ≤ 900000 ∧ SetAt H s td da tl ws f dl tw ∧ keysD dl ≠ [] ∧
  ∀ q H', But p H H' → PurseAt H' p (B + 2000) → H q = none → SomeMv H H' (keysD dl) q → Q (.ref q) H'
abbrev nDrMv : List Str := ["_law_purse_here", "_law_setting_here", "_law_most", "_law_states", "_law_moves", "_law_state", "_law_deed"]
theorem scDrMv : FnScope nDrMv ["_law_purse_here", "_law_setting_here", "_law_most"] (defScope sDrawnMv) := ⟨rfl, rfl, rfl, by decide +kernel, rfl, by decide +kernel, by decide +kernel⟩
theorem ok_drMv {g : Addr} {fd : FuncData} (F : Fun K "_law_drawn_moves" "_law_drawn_moves" sDrawnMv g fd) (Z : Blp mg) (D : DrawC P w K mg base) (W : Cee P w K mg base 4 "_law_words" ["_law_purse_here", "_law_many"] spWords) (O : Cee P w K mg base 3 "_law_one_of" ["_law_purse_here", "_law_some"] spOneOf) : FnOk P w K mg base CX0 5 g fd ["_law_purse_here", "_law_setting_here", "_law_most"] spDrawnMv := by
  refine F.ok scDrMv (fun vs H Q E h => ?_) (fun cdv A outer s H vs Q E hr h => ?_)
  · obtain ⟨p, s, td, da, tl, B, ws, f, dl, tw, rfl, _⟩ := h
    rfl
  · obtain ⟨p, s0, td, da, tl, B, ws, f, dl, tw, rfl, hP, b0, b9, se, dne, k⟩ := h
    have nd := scDrMv.nd
    refine ⟨_, pss_cons (ps_set (i := 3) nd rfl (Or.inr rfl) (pe_c W hr rfl (pa_cons (pv 0) (pa_cons (pe_op op_add pe_int (pe_c D hr rfl (pa_cons (pv 0) (pa_cons (pv 2) pa_nil)))) pa_nil))))
      (pss_cons (ps_set (i := 4) nd rfl (Or.inl rfl) pe_dnewK)
      (pss_cons (ps_for PassesOwn.never rfl (pi_list (pv 3)) (pg_name (i := 5) nd rfl (Or.inl rfl))
        (pss_one (ps_dput (hu_of hr) (pv 4) (pv 5) (pe_callTy (cr_dictP rfl) (by rfl) Z.dict (by decide +kernel) (pa_cons (pe_lock
          (pe_lc (own := [("_law_deed", 6)]) (g := gName 6) (tt := tYes) (te := tTup (tCons (tVar 6) (tCons (tCall spOneOf [] E0 (tCons (tVar 0) (tCons (tVar 3) tNil))) tNil))) rfl nd (pi_keys (pe_ix ix_list (pv 1) pe_int (fun _ _ => rfl))) (blkOk_by (own := [("_law_deed", 6)]) (N := nDrMv) (sc := defScope sDrawnMv) (by decide +kernel))
            (fun _ _ _ _ _ => pg_name (i := 6) nd rfl (Or.inl rfl)) (fun _ _ _ _ _ => pts_nil) (fun _ _ _ _ _ => pe_tup (pa_cons (pv 6) (pa_cons (pe_c O hr rfl (pa_cons (pv 0) (pa_cons (pv 3) pa_nil))) pa_nil))))) pa_nil)) rfl)))
      (pss_one (ps_ret (pv 4))))), ?_⟩
    have ldl : (keysD dl).length ≤ 8 := by rw [keysD_len]; exact se.ok.few
    refine ⟨_, rfl, _, rfl, _, rfl, p, 4, _, rfl, hP, by omega, by omega, by decide, by decide, fun r H1 bt1 hP1 r0 r1 => ?_⟩
    refine ⟨_, _, rfl, rfl, p, 1 + r, _, rfl, hP1, by omega, by omega, by omega, by omega, fun sq ss H2 hsq0 bt2 hP2 hsq lss wd nss => ?_⟩
    refine at_name (σ' := [some (.ref p), some (.ref s0), some (.int 4), some (.ref sq), none, none, none]) rfl ?_
    have ls4 : ss.length ≤ 4 := by omega
    have ls1 : 0 < ss.length := by omega
    refine fun d hd0 => ?_
    have npd : p ≠ d := hP2.ne hd0
    have s3 := Same.new (H := H2) (o := .dK []) hd0
    have hd : upd H2 d (.dK []) d = some (.dK []) := upd_same
    have hP3 := hP2.mono s3
    have bt3 : But p H (upd H2 d (.dK [])) := fun c o nc e => s3 _ _ (bt2 _ _ nc (bt1 _ _ nc e))
    have hsq3 := s3 _ _ hsq
    generalize upd H2 d (.dK []) = H3 at s3 hd hP3 bt3 hsq3 ⊢
    have hdH : H d = none := by
      cases e : H d with
      | none => rfl
      | some o => have := bt2 _ _ (Ne.symm npd) (bt1 _ _ (Ne.symm npd) e); rw [hd0] at this; cases this
    have nsqd : sq ≠ d := ne_of hsq3 hd (by intro z; cases z)
    have nsqp : p ≠ sq := hP3.strs hsq3
    refine at_name (σ' := [some (.ref p), some (.ref s0), some (.int 4), some (.ref sq), some (.ref d), none, none]) rfl ?_
    refine ⟨_, rfl, sq, rfl, ⟨_, SqL.of hsq3⟩, ?_⟩
    refine for_list (K := K) (a := sq) (xs := ss.map V.str) (fun i σ H' => ∃ x5, σ = [some (.ref p), some (.ref s0), some (.int 4), some (.ref sq), some (.ref d), x5, none] ∧ But p H H' ∧ PurseAt H' p (B + 1004 + 40 * (i : Nat)) ∧ H' sq = some (.lst (ss.map V.str)) ∧ ∃ (bs : List Addr) (row : Str → List (Str × Str)), Bld H' d ss i bs row ∧ ∀ s ∈ ss.take i, keysD (row s) = keysD dl ∧ ∀ q ∈ row s, q.2 ∈ ss) ?_ ?_ ?_ ?_
    · exact ⟨_, rfl, bt3, hP3.le (by omega), hsq3, [], fun _ => [], .nil hd, fun s hs => by rw [List.take_zero] at hs; cases hs⟩
    · rintro i σ H' _ ⟨x5, rfl, _, _, h, _⟩
      exact SqL.of h
    · rintro i v σ H4 hx ⟨x5, rfl, bt4, hP4, hsq4, bs, row, b4, ro⟩
      obtain ⟨z, ez, rfl⟩ := str_get hx
      have hi4 : i < 4 := by have := (List.getElem?_eq_some_iff.mp ez).1; omega
      refine at_name (σ' := [some (.ref p), some (.ref s0), some (.int 4), some (.ref sq), some (.ref d), some (.str z), none]) rfl ?_
      have se4 := se.purse hP bt4
      have nsd : s0 ≠ da := ne_of se4.hs se4.hd (by intro z; cases z)
      have nsqa : sq ≠ da := ne_of hsq4 se4.hd (by intro z; cases z)
      have npa : p ≠ da := by
        obtain ⟨a1, b1, c1, d1, e, _⟩ := hP4
        exact ne_of e se4.hd (by intro z; cases z)
      have nps : s0 ≠ p := by
        obtain ⟨a1, b1, c1, d1, e, _⟩ := hP4
        refine ne_of se4.hs e ?_
        intro z
        injection z with z
        injection z with z _
        cases z
      show tCB (rDP K) (tCons (tLockE (tLc (iKeys (tOp (rIxL K) (tVar 1) (tC (.int 1)))) (gName 6) tYes _ [6])) tNil) _ _ _
      refine rdP_keys (K := K) (p := p) (B := B + 1004 + 40 * (i : Nat)) (S := ss) (xs := keysD dl) (kvs := dkv dl) (fun od R hh => ⟨_, rfl, s0, _, 1, _, rfl, rfl, SqL.of ((upd_ne nsd).trans se4.hs), atI_nat (j := 1) rfl, hh⟩) se4.hd hP4 (dkv_keys dl) (by omega) se.ok.nd ?_ ?_
      · intro n o od H5 R hn ho b5 hP5 kR
        refine at_name (σ' := [some (.ref p), some (.ref s0), some (.int 4), some (.ref sq), some (.ref d), some (.str z), some (.str o)]) rfl ⟨rfl, ?_⟩
        have hsq5 := b5 _ _ (Ne.symm nsqp) ((upd_ne nsqa).trans hsq4)
        refine ⟨_, rfl, _, rfl, _, rfl, p, sq, ss.map V.str, _, rfl, nsqp, hP5, by omega, by omega, hsq5, by rw [List.length_map]; exact ls1, by rw [List.length_map]; omega, fun y H6 my b6 hP6 => ?_⟩
        obtain ⟨u, mu, rfl⟩ := List.mem_map.mp my
        refine ⟨(by show 2 ≤ sizeLine; decide), fun t ht0 => ?_⟩
        exact kR t u _ (b6.new ht0) ((hP6.upd (hP6.ne ht0)).le (by omega)) mu upd_same
      · intro q ys H5 b5 hP5 hq0 ly my hq
        obtain ⟨row', er⟩ : ∃ row' : Str → List (Str × Str), row' = fun s => if s = z then (keysD dl).zip ys else row s := ⟨_, rfl⟩
        have nz : ∀ s ∈ ss.take i, s ≠ z := fun s hs e => by
          have nt : (ss.take (i + 1)).Nodup := List.Pairwise.sublist (List.take_sublist _ _) nss
          rw [take_next' ez] at nt
          exact (List.nodup_append.mp nt).2.2 s hs z (List.mem_singleton.mpr rfl) e
        have b4' : Bld H4 d ss i bs row' := b4.row fun s hs => by rw [er]; exact if_neg (nz s hs)
        have hq2 : H5 q = some (.dK (dkv (row' z))) := by rw [hq, er]; simp
        obtain ⟨_, n1, n2⟩ := b4'.but hP4 b5
        obtain ⟨h1, h2, b6⟩ := b4'.put nss ez (.inr ⟨p, b5, n1, n2⟩) hq0 hq2 (by omega)
        have nsq : sq ≠ d := nsqd
        refine ⟨_, rfl, _, rfl, d, _, rfl, DPut.k (k := Sum.inr z) h1 h2, ?_⟩
        refine ⟨_, rfl, fun c o nc e => (upd_ne (ne_of_none e hdH)).trans (b5 _ _ nc (bt4 _ _ nc e)), (hP5.upd npd).le (by omega), (upd_ne nsqd).trans (b5 _ _ (Ne.symm nsqp) hsq4), _, row', b6, fun s hs => ?_⟩
        rw [take_next' ez] at hs
        rcases List.mem_append.mp hs with h | h
        · rw [er]
          show keysD (if s = z then _ else row s) = _ ∧ ∀ q ∈ (if s = z then _ else row s), q.2 ∈ ss
          rw [if_neg (nz s h)]
          exact ro s h
        · rw [List.mem_singleton.mp h, er]
          show keysD (if z = z then _ else row z) = _ ∧ ∀ q ∈ (if z = z then _ else row z), q.2 ∈ ss
          rw [if_pos rfl]
          refine ⟨List.map_fst_zip (by omega), fun q hq => my _ (List.of_mem_zip hq).2⟩
    · rintro σ H4 ⟨x5, rfl, bt4, hP4, hsq4, bs, row, b4, ro⟩
      rw [List.length_map] at b4 hP4
      rw [List.length_map, List.take_length] at ro
      have m4 := Bld.full b4
      have pm := ascOf_perm ss
      refine ⟨_, rfl, k d H4 bt4 (hP4.le (by omega)) hdH ⟨ascOf ss, fun s o => kof (row s) o, ⟨ss, bs, row, m4, pm.symm, fun s hs => ⟨by rw [(ro s (pm.mem_iff.mp hs)).1], fun _ _ => rfl⟩⟩, ?_, by rw [pm.length_eq]; omega⟩⟩
      exact {
        asc := ascOf_asc nss
        ne := fun e => by have := pm.length_eq; rw [e] at this; simp at this; omega
        few := by rw [pm.length_eq]; omega
        wd := fun s hs => wd s (pm.mem_iff.mp hs)
        dsc := se.asc
        dne := dne
        dfew := by omega
        dwd := se.ok.wd
        cl := fun s hs o ho => by
          obtain ⟨k1, k2⟩ := ro s (pm.mem_iff.mp hs)
          exact pm.mem_iff.mpr (k2 _ (kof_pair (by rw [k1]; exact se.ok.nd) (by rw [k1]; exact ho))) }
end
end KT
set_option Elab.async false
set_option linter.all false
set_option maxRecDepth 100000
set_option maxHeartbeats 4000000
set_option pp.maxSteps 900
namespace KT
open PySem L2 PyProof.Rows DTp TxS DKq
section
variable {P : Program} {w : World} {K : PySem.W.Frag} {mg : Str → Option Value} {base : Heap} {G : Addr}
def spPaired : Sp := fun vs H Q _ => ∃ (a b : Addr) (sts sts2 ds : List Str) (t t2 : Str → Str → Str), vs = [.ref a, .ref b] ∧ MvT H a sts ds t ∧ MV sts ds t ∧ MvT H b sts2 ds t2 ∧ MV sts2 ds t2 ∧ sts.length * sts2.length < 64 ∧
  ∀ l nq mq bs H', L2.Same H H' → H l = none → H nq = none → H mq = none → H' l = some (.lst [.ref nq, .ref mq]) → H' nq = some (.dT ((prsG sts sts2).map fun pp => (keyP pp, valW (wordG sts sts2) pp))) → MvAt H' mq (cws (sts.length * sts2.length)) bs (rowT ds (bothT sts sts2 t t2)) → Q (.ref l) H'
abbrev nPaired : List Str := ["_law_one", "_law_other", "_law_pairs", "_law_state", "_law_names", "_law_deeds", "_law_late", "_law_at", "_law_pair", "_law_deed"]
theorem scPaired : FnScope nPaired ["_law_one", "_law_other"] (defScope sPaired) := ⟨rfl, rfl, rfl, by decide +kernel, rfl, by decide +kernel, by decide +kernel⟩
abbrev scPd1 : Scope := { kind := .function, names := [(".0", .local), ("_law_pair", .cell), ("dict", .globalImplicit), ("_law_deeds", .cell), ("_law_names", .cell), ("_law_one", .cell), ("_law_other", .cell)], isGenerator := false, isCoroutine := false }
theorem ok_paired {g : Addr} {fd : FuncData} (F : Fun K "_law_paired" "_law_paired" sPaired g fd) (Z : Blp mg) (hen : mg "enumerate" = none) (M : Cee P w K mg base 1 "_law_numbered" ["_law_at"] spNumb) : FnOk P w K mg base CX0 2 g fd ["_law_one", "_law_other"] spPaired := by
  refine F.ok scPaired (fun vs H Q E h => ?_) (fun cdv A outer s H vs Q E hr h => ?_)
  · obtain ⟨a, b, sts, sts2, ds, t, t2, rfl, _⟩ := h
    rfl
  · obtain ⟨a, b, sts, sts2, ds, t, t2, rfl, ma, mv1, mb, mv2, few, k⟩ := h
    have nd := scPaired.nd
    refine ⟨_, pss_cons (ps_set (i := 2) nd rfl (Or.inl rfl) (pe_lst pa_nil))
      (pss_cons (ps_for PassesOwn.never rfl (pi_list (pe_callB (cr_sortD rfl) (by rfl) Z.sorted (by decide +kernel) (pa_cons (pv 0) pa_nil))) (pg_name (i := 3) nd rfl (Or.inr rfl))
        (pss_one (ps_set (i := 2) nd rfl (Or.inl rfl) (pe_op op_cat (pv 2) (pe_lc (own := [("_law_late", 6)]) (g := gName 6) (tt := tYes) (te := tTup (tCons (tVar 3) (tCons (tVar 6) tNil))) rfl nd (pi_list (pe_callB (cr_sortD rfl) (by rfl) Z.sorted (by decide +kernel) (pa_cons (pv 1) pa_nil))) (blkOk_by (own := [("_law_late", 6)]) (N := nPaired) (sc := defScope sPaired) (by decide +kernel))
            (fun _ _ _ _ _ => pg_name (i := 6) nd rfl (Or.inl rfl)) (fun _ _ _ _ _ => pts_nil) (fun _ _ _ _ _ => pe_tup (pa_cons (pv 3) (pa_cons (pv 6) pa_nil))))))))
      (pss_cons (ps_set (i := 4) nd rfl (Or.inr rfl) (pe_callTy (cr_dictT rfl (u2 hr.units)) (by rfl) Z.dict (by decide +kernel) (pa_cons
          (pe_lc (own := [("_law_at", 7), ("_law_pair", 8)]) (g := gXY K 7 8) (tt := tYes) (te := tTup (tCons (tVar 8) (tCons (tCall spNumb [] E0 (tCons (tVar 7) tNil)) tNil))) rfl nd (pi_enum (by rfl) hen (pa_cons (pv 2) pa_nil)) (blkOk_by (own := [("_law_at", 7), ("_law_pair", 8)]) (N := nPaired) (sc := defScope sPaired) (by decide +kernel))
            (fun _ _ _ _ _ => pg_tup rfl (pgs_cons (pg_name (i := 7) nd rfl (Or.inl rfl)) (pgs_cons (pg_name (i := 8) nd rfl (Or.inl rfl)) pgs_nil))) (fun _ _ _ _ _ => pts_nil) (fun _ _ _ _ _ => pe_tup (pa_cons (pv 8) (pa_cons (pe_c M hr rfl (pa_cons (pv 7) pa_nil)) pa_nil)))) pa_nil)))
      (pss_cons (ps_set (i := 5) nd rfl (Or.inr rfl) (pe_callB (cr_sortD rfl) (by rfl) Z.sorted (by decide +kernel) (pa_cons (pe_dget (hu_of hr) (pv 0) (pe_ix ix_list (pe_callB (cr_sortD rfl) (by rfl) Z.sorted (by decide +kernel) (pa_cons (pv 0) pa_nil)) pe_int (fun _ _ => rfl)) (fun _ _ => rfl)) pa_nil)))
      (pss_one (ps_ret (pe_lst (pa_cons (pv 4) (pa_cons (pe_callTy (cr_dictP rfl) (by rfl) Z.dict (by decide +kernel) (pa_cons
          (pe_lc (own := [("_law_pair", 8)]) (g := gName 8) (tt := tYes)
            (te := tTup (tCons (tDGet (tVar 4) (tVar 8)) (tCons (tCB (rDP K) (tCons (tLc (iList K (tVar 5)) (gName 9) tYes (tTup (tCons (tVar 9) (tCons (tDGet (tVar 4) (tTup (tCons (tDGet (tDGet (tVar 0) (tOp (rIxT K) (tVar 8) (tC (.int 0)))) (tVar 9)) (tCons (tDGet (tDGet (tVar 1) (tOp (rIxT K) (tVar 8) (tC (.int 1)))) (tVar 9)) tNil)))) tNil))) [9]) tNil)) tNil))) rfl nd
            (pi_list (pv 2)) (blkOk_by (own := [("_law_pair", 8)]) (N := nPaired) (sc := defScope sPaired) (by decide +kernel)) (fun _ _ _ _ _ => pg_name (i := 8) nd rfl (Or.inr rfl)) (fun _ _ _ _ _ => pts_nil)
            (fun _ _ _ _ _ => pe_tup (pa_cons (pe_dget (hu_of hr) (pv 4) (pv 8) (fun _ _ => rfl)) (pa_cons (pe_callTy (cr_dictP rfl) (by rfl) Z.dict (by decide +kernel) (pa_cons
              (pe_lc (own := [("_law_deed", 9)]) (g := gName 9) (tt := tYes) (te := tTup (tCons (tVar 9) (tCons (tDGet (tVar 4) (tTup (tCons (tDGet (tDGet (tVar 0) (tOp (rIxT K) (tVar 8) (tC (.int 0)))) (tVar 9)) (tCons (tDGet (tDGet (tVar 1) (tOp (rIxT K) (tVar 8) (tC (.int 1)))) (tVar 9)) tNil)))) tNil))) rfl nd
                (pi_list (pv 5)) (blkOk_by (own := [("_law_deed", 9)]) (N := nPaired) (sc := scPd1) (by decide +kernel)) (fun _ _ _ _ _ => pg_name (i := 9) nd rfl (Or.inl rfl)) (fun _ _ _ _ _ => pts_nil)
                (fun _ _ _ _ _ => pe_tup (pa_cons (pv 9) (pa_cons (pe_dget (hu_of hr) (pv 4) (pe_tup (pa_cons (pe_dget (hu_of hr) (pe_dget (hu_of hr) (pv 0) (pe_ix ix_tup (pv 8) pe_int (fun _ _ => rfl)) (fun _ _ => rfl)) (pv 9) (fun _ _ => rfl)) (pa_cons (pe_dget (hu_of hr) (pe_dget (hu_of hr) (pv 1) (pe_ix ix_tup (pv 8) pe_int (fun _ _ => rfl)) (fun _ _ => rfl)) (pv 9) (fun _ _ => rfl)) pa_nil))) (fun _ _ => rfl)) pa_nil)))) pa_nil)) pa_nil)))) pa_nil)) pa_nil)))))))), ?_⟩
    have n1 := mv1.asc.nodup
    have n2 := mv2.asc.nodup
    have f1 := mv1.few
    have f2 := mv2.few
    have dfew := mv1.dfew
    obtain ⟨ss1, as1, row1, ha, hka, pm1, kt1, gt1⟩ := ma.at mv1
    obtain ⟨ss2, as2, row2, hb, hkb, pm2, kt2, gt2⟩ := mb.at mv2
    have lfew1 : ss1.length < 64 := by rw [pm1.length_eq]; exact f1
    have lfew2 : ss2.length < 64 := by rw [pm2.length_eq]; exact f2
    have sor1 : ∀ {ys : List Str}, ys.Perm ss1 → sortedS ys → sts = ys := fun pq so => ((sortedS_asc so (pq.nodup_iff.mpr (pm1.nodup_iff.mpr n1))).eq mv1.asc (pq.trans pm1)).symm
    have sor2 : ∀ {ys : List Str}, ys.Perm ss2 → sortedS ys → sts2 = ys := fun pq so => ((sortedS_asc so (pq.nodup_iff.mpr (pm2.nodup_iff.mpr n2))).eq mv2.asc (pq.trans pm2)).symm
    refine ⟨(by show 0 ≤ sizeLine; decide), fun pq0 hpq00 => ?_⟩
    have s1 := Same.new (H := H) (o := .lst []) hpq00
    have hpq0 : upd H pq0 (.lst []) pq0 = some (.lst (([] : List Addr).map V.ref)) := upd_same
    generalize upd H pq0 (.lst []) = H1 at s1 hpq0 ⊢
    refine at_name (σ' := [some (.ref a), some (.ref b), some (.ref pq0), none, none, none, none, none, none, none]) rfl ?_
    refine ⟨_, rfl, a, _, ss1, rfl, .inl (s1 _ _ ha), hka, lfew1, fun ys l1 pq so hl10 => ?_⟩
    have ey := sor1 pq so
    subst ey
    have s2 := Same.new (H := H1) (o := .lst (sts.map V.str)) hl10
    have hl1 : upd H1 l1 (.lst (sts.map V.str)) l1 = _ := upd_same
    generalize upd H1 l1 (.lst (sts.map V.str)) = H2 at s2 hl1 ⊢
    have s02 := s1.trans s2
    refine ⟨l1, rfl, ⟨_, SqL.of hl1⟩, ?_⟩
    refine for_list (K := K) (a := l1) (xs := sts.map V.str) (fun i σ H' => ∃ (pq : Addr) (x3 : Option V) (ts : List Addr), σ = [some (.ref a), some (.ref b), some (.ref pq), x3, none, none, none, none, none, none] ∧ L2.Same H2 H' ∧ H pq = none ∧ H' pq = some (.lst (ts.map V.ref)) ∧ PrT H' ts (prsG (sts.take i) sts2)) ?_ ?_ ?_ ?_
    · exact ⟨pq0, _, [], rfl, fun _ _ e => e, hpq00, s2 _ _ hpq0, .nil⟩
    · rintro i σ H' _ ⟨pq, x3, ts, rfl, s3, _⟩
      exact SqL.of (s3 _ _ hl1)
    · rintro i v σ H3 hx ⟨pq, x3, ts, rfl, s3, hpqn, hpq, pr3⟩
      obtain ⟨x, ex, rfl⟩ := str_get hx
      have hi := (List.getElem?_eq_some_iff.mp ex).1
      refine at_name (σ' := [some (.ref a), some (.ref b), some (.ref pq), some (.str x), none, none, none, none, none, none]) rfl ?_
      have s03 := s02.trans s3
      refine ⟨_, rfl, _, rfl, b, _, ss2, rfl, .inl (s03 _ _ hb), hkb, lfew2, fun ys l2 pq2 so hl20 => ?_⟩
      have ey := sor2 pq2 so
      subst ey
      have s4 := Same.new (H := H3) (o := .lst (sts2.map V.str)) hl20
      have hl2 : upd H3 l2 (.lst (sts2.map V.str)) l2 = _ := upd_same
      generalize upd H3 l2 (.lst (sts2.map V.str)) = H4 at s4 hl2 ⊢
      have hpq4 := s4 _ _ hpq
      have pr4 := pr3.mono s4
      refine ⟨l2, rfl, ⟨_, SqL.of hl2⟩, fun D hD => ?_⟩
      refine lc_it (walk_list (K := K) (a := l2) (xs := sts2.map V.str)) (fun j H' => L2.Same H4 H' ∧ ∃ ts2 : List Addr, H' D = some (.lst (ts2.map V.ref)) ∧ PrT H' ts2 ((sts2.take j).map fun u => (x, u))) ?_ ?_ ?_ ?_
      · exact ⟨Same.new hD, [], upd_same, by rw [List.take_zero]; exact .nil⟩
      · rintro j H' _ ⟨s5, _⟩
        exact SqL.of (s5 _ _ hl2)
      · rintro j v H5' H5 hj ⟨s5, ts2, hD5, pr5⟩ ⟨rfl, hy⟩
        obtain ⟨u, eu, rfl⟩ := str_get hy
        refine at_name (σ' := [some (.ref a), some (.ref b), some (.ref pq), some (.str x), none, none, some (.str u), none, none, none]) rfl ⟨rfl, yes_if ?_⟩
        refine ⟨_, rfl, _, rfl, (by show 2 ≤ sizeLine; decide), fun tt htt0 => ?_⟩
        have s6 := Same.new (H := H5) (o := .tup [.str x, .str u]) htt0
        have htt : upd H5 tt (.tup [.str x, .str u]) tt = _ := upd_same
        generalize upd H5 tt (.tup [.str x, .str u]) = H6 at s6 htt ⊢
        have hD6 := s6 _ _ hD5
        have lt2 : ts2.length ≤ 64 := by
          have e := Paired.length pr5
          rw [List.length_map, List.length_take] at e
          omega
        refine ⟨_, hD6, by rw [List.length_map, sizeLine_eq]; omega, fun c o e => ?_, ts2 ++ [tt], by rw [upd_same, List.map_append]; rfl, ?_⟩
        · rw [upd_ne (ne_of_none e hD)]
          exact s6 _ _ (s5 _ _ e)
        · rw [take_next' eu, List.map_append]
          exact ((pr5.mono s6).snoc (p := (x, u)) htt).upd hD6 _
      rintro H5 ⟨s5, ts2, hD5, pr5⟩
      rw [List.length_map, List.take_length] at pr5
      have hpq5 := s5 _ _ hpq4
      have lts : ts.length ≤ 4096 := by
        have e := Paired.length pr3
        rw [prsG_len, List.length_take] at e
        have : min i sts.length * sts2.length ≤ 63 * 63 := Nat.mul_le_mul (by omega) (by omega)
        omega
      have lts2 : ts2.length ≤ 64 := by
        have e := Paired.length pr5
        rw [List.length_map] at e
        omega
      refine ⟨pq, D, _, _, rfl, rfl, hpq5, hD5, by rw [List.length_map, List.length_map, sizeLine_eq]; omega, fun nq hnq0 => ?_⟩
      rw [← List.map_append]
      have s6 := Same.new (H := H5) (o := .lst ((ts ++ ts2).map V.ref)) hnq0
      have s36 : L2.Same H3 (upd H5 nq (.lst ((ts ++ ts2).map V.ref))) := s4.trans (s5.trans s6)
      refine at_name (σ' := [some (.ref a), some (.ref b), some (.ref nq), some (.str x), none, none, none, none, none, none]) rfl ?_
      exact ⟨nq, _, ts ++ ts2, rfl, s3.trans s36, (s03.trans (s4.trans s5)).free hnq0, upd_same, by rw [prsG_take ex]; exact paired_append ((pr4.mono s5).mono s6) (pr5.mono s6)⟩
    rintro σ H3 ⟨pq, x3, ts, rfl, s3, hpqn, hpq, pr3⟩
    rw [List.length_map, List.take_length] at pr3
    have s03 := s02.trans s3
    obtain ⟨n, en⟩ : ∃ n, n = sts.length * sts2.length := ⟨_, rfl⟩
    have lts : ts.length = n := by rw [Paired.length pr3, prsG_len, en]
    have lpr : (prsG sts sts2).length = n := by rw [prsG_len, en]
    have wmap := words_map n1 n2 few
    rw [← en] at wmap
    -- names
    show tCB (rDictT K) (tCons (tLc (iEnum K (tCons (tVar 2) tNil)) (gXY K 7 8) tYes _ [7, 8]) tNil) _ _ _
    refine ⟨_, rfl, pq, _, rfl, SqL.of hpq, fun D hD => ?_⟩
    refine lc_pairs (key := keyP) (val := valW (wordG sts sts2)) (walk_enum (K := K) (a := pq) (xs := ts.map V.ref)) (prsG sts sts2) (by rw [List.length_map, lts, lpr]) (by rw [List.length_map]; omega) hD (fun H' s => SqL.of (s _ _ hpq)) ?_ ?_
    · rintro i v H4' H4 pp R hp s4 hY kR
      obtain ⟨T, x0, y, rfl, hT, rfl, hx, hy⟩ := hY
      cases hx
      replace hy : (ts.map V.ref)[i]? = some y := hy
      rw [List.getElem?_map] at hy
      obtain ⟨tt, htt⟩ : ∃ tt, ts[i]? = some tt := ⟨_, List.getElem?_eq_getElem (by rw [lts, ← lpr]; exact (List.getElem?_eq_some_iff.mp hp).1)⟩
      rw [htt] at hy
      obtain rfl : V.ref tt = y := Option.some.inj hy
      have htp : H3 tt = some (.tup [.str pp.1, .str pp.2]) := paired_nth pr3 i tt pp htt hp
      have sT := Same.new (H := H4') (o := .tup [.int (i : Nat), .ref tt]) hT
      refine ⟨T, _, rfl, SqT.of upd_same, rfl, _, _, rfl, at_name (σ' := [some (.ref a), some (.ref b), some (.ref pq), x3, none, none, none, some (.int (i : Nat)), none, none]) rfl ⟨_, _, rfl, at_name (σ' := [some (.ref a), some (.ref b), some (.ref pq), x3, none, none, none, some (.int (i : Nat)), some (.ref tt), none]) rfl ⟨rfl, rfl, ?_⟩⟩⟩
      have hi := (List.getElem?_eq_some_iff.mp hp).1
      refine ⟨_, rfl, _, rfl, i, rfl, by omega, fun H5 s5 => ⟨(by show 2 ≤ sizeLine; decide), fun tq htq0 => ?_⟩⟩
      have s6 := Same.new (H := H5) (o := .tup [.ref tt, .str (stW i)]) htq0
      have s46 : L2.Same H4' (upd H5 tq (.tup [.ref tt, .str (stW i)])) := fun b o e => s6 _ _ (s5 _ _ (sT _ _ e))
      refine kR tq tt _ s46 ?_ (s46 _ _ (s4 _ _ htp))
      rw [upd_same, ← wordG_at n1 n2 few hp]
      rfl
    intro H4 ps s4 hD4 pg
    refine ⟨D, ps, _, rfl, SqL.of hD4, PrG.prT pg, fun nq hnq0 => ?_⟩
    rw [mergeT_nd _ _ (by
        rw [List.nil_append, List.map_map]
        exact List.pairwise_map.mpr (List.Pairwise.imp (fun ne e => ne (keyP_inj _ _ e)) (prsG_nodup n1 n2))), List.nil_append]
    obtain ⟨wk, ewk⟩ : ∃ wk, wk = (prsG sts sts2).map fun pp => (keyP pp, valW (wordG sts sts2) pp) := ⟨_, rfl⟩
    rw [← ewk] at k ⊢
    have wget : ∀ {x y : Str}, x ∈ sts → y ∈ sts2 → valV wk (keyP (x, y)) = some (.str (wordG sts sts2 x y)) := fun {x y} hx hy => by
      rw [ewk]
      exact valV_mem (by rw [List.map_map]; exact List.pairwise_map.mpr (List.Pairwise.imp (fun ne e => ne (keyP_inj _ _ e)) (prsG_nodup n1 n2))) (List.mem_map.mpr ⟨(x, y), prsG_mem.mpr ⟨hx, hy⟩, rfl⟩)
    have s5 := Same.new (H := H4) (o := .dT wk) hnq0
    have hnq : upd H4 nq (.dT wk) nq = _ := upd_same
    have nnq : H nq = none := (s03.trans s4).free hnq0
    generalize upd H4 nq (.dT wk) = H5 at s5 hnq ⊢
    have s05 := s03.trans (s4.trans s5)
    refine at_name (σ' := [some (.ref a), some (.ref b), some (.ref pq), x3, some (.ref nq), none, none, none, none, none]) rfl ?_
    -- deeds
    obtain ⟨z0, ez0⟩ : ∃ z0, sts[0]? = some z0 := ⟨_, List.getElem?_eq_getElem (List.length_pos_iff.mpr mv1.ne)⟩
    have mz0 := List.mem_of_getElem? ez0
    obtain ⟨c0, nc0, vc0, hc0⟩ := gt1 z0 mz0
    obtain ⟨k1, k2⟩ := kt1 z0 mz0
    refine ⟨_, rfl, _, rfl, a, _, ss1, rfl, .inl (s05 _ _ ha), hka, lfew1, fun ys l3 pq3 so hl30 => ?_⟩
    have ey := sor1 pq3 so
    subst ey
    have s6 := Same.new (H := H5) (o := .lst (sts.map V.str)) hl30
    have hl3 : upd H5 l3 (.lst (sts.map V.str)) l3 = _ := upd_same
    generalize upd H5 l3 (.lst (sts.map V.str)) = H6 at s6 hl3 ⊢
    refine ⟨l3, _, 0, _, rfl, rfl, SqL.of hl3, atI_nat (j := 0) (by rw [List.getElem?_map, ez0]; rfl), ?_⟩
    have s06 := s05.trans s6
    have dg := DGet.k (k := Sum.inr z0) (s06 _ _ ha)
    rw [vc0] at dg
    refine ⟨a, _, rfl, dg, c0, dkv (row1 z0), keysD (row1 z0), rfl, .inl (s06 _ _ hc0), dkv_keys _, by rw [k1.length_eq]; omega, fun ys dq pqd so hdq0 => ?_⟩
    have ey : ys = ds := (sortedS_asc so (pqd.nodup_iff.mpr (k1.nodup_iff.mpr mv1.dsc.nodup))).eq mv1.dsc (pqd.trans k1)
    subst ey
    have s7 := Same.new (H := H6) (o := .lst (ys.map V.str)) hdq0
    have hdq : upd H6 dq (.lst (ys.map V.str)) dq = _ := upd_same
    generalize upd H6 dq (.lst (ys.map V.str)) = H7 at s7 hdq ⊢
    have s07 := s06.trans s7
    have s57 : L2.Same H5 H7 := s6.trans s7
    have hpq7 := s57 _ _ (s5 _ _ (s4 _ _ hpq))
    have pr7 := ((pr3.mono s4).mono s5).mono s57
    have hnq7 := s57 _ _ hnq
    refine at_name (σ' := [some (.ref a), some (.ref b), some (.ref pq), x3, some (.ref nq), some (.ref dq), none, none, none, none]) rfl ?_
    refine ⟨_, rfl, ?_⟩
    show tCB (rDP K) (tCons (tLc (iList K (tVar 2)) (gName 8) tYes _ [8]) tNil) _ _ _
    obtain ⟨zs, ezs⟩ : ∃ zs, zs = ts.zip (prsG sts sts2) := ⟨_, rfl⟩
    have zl : zs.map (fun q => V.ref q.1) = ts.map V.ref := by
      rw [ezs]
      have : (fun q : Addr × Str × Str => V.ref q.1) = V.ref ∘ Prod.fst := rfl
      rw [this, ← List.map_map, List.map_fst_zip (by rw [lts, lpr]; exact Nat.le_refl _)]
    have zn : zs.map (fun q => wordG sts sts2 q.2.1 q.2.2) = cws n := by
      rw [ezs, ← wmap]
      have : (fun q : Addr × Str × Str => wordG sts sts2 q.2.1 q.2.2) = (fun pp : Str × Str => wordG sts sts2 pp.1 pp.2) ∘ Prod.snd := rfl
      rw [this, ← List.map_map, List.map_snd_zip (by rw [lts, lpr]; exact Nat.le_refl _)]
    have zlen : zs.length = n := by rw [ezs, List.length_zip, lts, lpr, Nat.min_self]
    have zin : ∀ {q : Addr × Str × Str}, q ∈ zs → H7 q.1 = some (.tup [.str q.2.1, .str q.2.2]) ∧ q.2.1 ∈ sts ∧ q.2.2 ∈ sts2 := fun {q} hq => by
      rw [ezs] at hq
      obtain ⟨i, hi⟩ := List.mem_iff_getElem?.mp hq
      obtain ⟨h1, h2⟩ := List.getElem?_zip_eq_some.mp hi
      have := prsG_mem.mp (List.mem_of_getElem? h2)
      exact ⟨paired_nth pr7 i _ _ h1 h2, this.1, this.2⟩
    refine rdR_list (K := K) (fun q : Addr × Str × Str => V.ref q.1) (fun q => wordG sts sts2 q.2.1 q.2.2) (fun q => .dK (dkv (ys.map fun o => (o, wordG sts sts2 (t q.2.1 o) (t2 q.2.2 o))))) (fun _ _ z => by cases z) (xs := zs) (by omega) (by rw [zn]; exact cws_nd (by omega)) ?_ ?_ ?_
    · intro R hR
      exact ⟨_, rfl, hR pq H7 (fun _ _ e => e) (by rw [zl]; exact hpq7)⟩
    · intro q H8 R hq s8 kR
      obtain ⟨htq, m1, m2⟩ := zin hq
      refine at_name (σ' := [some (.ref a), some (.ref b), some (.ref pq), x3, some (.ref nq), some (.ref dq), none, none, some (.ref q.1), none]) rfl ⟨rfl, ?_⟩
      have htq8 := s8 _ _ htq
      have dn : DGet H8 nq (.ref q.1) (some (.str (wordG sts sts2 q.2.1 q.2.2))) := by
        have := DGet.t (k := keyP q.2) (s8 _ _ hnq7) htq8
        rw [wget m1 m2] at this
        exact this
      refine ⟨_, rfl, _, rfl, nq, _, rfl, dn, ?_⟩
      show tCB (rDP K) (tCons (tLc (iList K (tVar 5)) (gName 9) tYes _ [9]) tNil) _ _ _
      refine rdS_list (K := K) (xs := ys) (key := fun o => o) (val := fun o => .str (wordG sts sts2 (t q.2.1 o) (t2 q.2.2 o))) (fun _ H' => L2.Same H8 H') (by omega) ?_ ?_ ?_
      · intro R2 hR2
        exact ⟨_, rfl, hR2 dq H8 (s8 _ _ hdq) (fun _ _ e => e)⟩
      · intro l o H9 H10 R3 ho s9 s10 kR3
        refine at_name (σ' := [some (.ref a), some (.ref b), some (.ref pq), x3, some (.ref nq), some (.ref dq), none, none, some (.ref q.1), some (.str o)]) rfl ⟨rfl, ?_⟩
        have s810 : L2.Same H8 H10 := L2.Same.trans s9 s10
        have s710 : L2.Same H7 H10 := s8.trans s810
        have s010 := s07.trans s710
        obtain ⟨b1, _, v1, hb1⟩ := gt1 _ m1
        obtain ⟨b2, _, v2, hb2⟩ := gt2 _ m2
        obtain ⟨p1, p2⟩ := kt1 _ m1
        obtain ⟨r1, r2⟩ := kt2 _ m2
        have d1 := DGet.k (k := Sum.inr q.2.1) (s010 _ _ ha)
        rw [v1] at d1
        have d2 := DGet.k (k := Sum.inr q.2.2) (s010 _ _ hb)
        rw [v2] at d2
        have e1 := DGet.k (k := Sum.inr o) (s010 _ _ hb1)
        rw [valV_dkv (p1.nodup_iff.mpr mv1.dsc.nodup) (p1.mem_iff.mpr ho), p2 o ho] at e1
        have e2 := DGet.k (k := Sum.inr o) (s010 _ _ hb2)
        rw [valV_dkv (r1.nodup_iff.mpr mv1.dsc.nodup) (r1.mem_iff.mpr ho), r2 o ho] at e2
        have htq10 := s710 _ _ htq
        refine ⟨_, rfl, _, rfl, _, rfl, _, rfl, q.1, _, 0, _, rfl, rfl, SqT.of htq10, atI_nat (j := 0) rfl, a, _, rfl, d1, _, rfl, b1, _, rfl, e1, ?_⟩
        refine ⟨_, rfl, _, rfl, q.1, _, 1, _, rfl, rfl, SqT.of htq10, atI_nat (j := 1) rfl, b, _, rfl, d2, _, rfl, b2, _, rfl, e2, (by show 2 ≤ sizeLine; decide), fun tu htu0 => ?_⟩
        have s11 := Same.new (H := H10) (o := .tup [.str (t q.2.1 o), .str (t2 q.2.2 o)]) htu0
        have htu : upd H10 tu (.tup [.str (t q.2.1 o), .str (t2 q.2.2 o)]) tu = some (.tup ((keyP (t q.2.1 o, t2 q.2.2 o)).map kV)) := upd_same
        generalize upd H10 tu (.tup [.str (t q.2.1 o), .str (t2 q.2.2 o)]) = H11 at s11 htu ⊢
        have dn2 : DGet H11 nq (.ref tu) (some (.str (wordG sts sts2 (t q.2.1 o) (t2 q.2.2 o)))) := by
          have := DGet.t (k := keyP (t q.2.1 o, t2 q.2.2 o)) (s11 _ _ (s710 _ _ hnq7)) htu
          rw [wget (mv1.cl _ m1 o ho) (mv2.cl _ m2 o ho)] at this
          exact this
        exact ⟨nq, _, rfl, dn2, (by show 2 ≤ sizeLine; decide), fun tv htv0 => kR3 tv _ (fun c o e => (Same.new htv0) _ _ (s11 _ _ e)) upd_same⟩
      · intro qq l H9 H10 s9 s10 hqq0 hqq
        rw [mergeK_strs mv1.dsc.nodup] at hqq
        refine ⟨(by show 2 ≤ sizeLine; decide), fun tv htv0 => ?_⟩
        have s11 := Same.new (H := H10) (o := .tup [.str (wordG sts sts2 q.2.1 q.2.2), .ref qq]) htv0
        have s810 : L2.Same H8 H10 := L2.Same.trans s9 s10
        refine kR tv qq _ (s810.trans s11) (L2.Same.free s9 hqq0) (s11 _ _ ?_) upd_same
        rw [hqq]
        unfold dkv
        rw [List.map_map]; rfl
    · intro mq bs H8 s8 hmq0 lb nda fr hmq ob
      rw [zn] at hmq
      refine ⟨(by show 2 ≤ sizeLine; decide), fun l hl0 => ?_⟩
      have s9 := Same.new (H := H8) (o := .lst [.ref nq, .ref mq]) hl0
      have s08 := s07.trans s8
      have m8 : MvAt H8 mq (cws n) bs (rowT ys (bothT sts sts2 t t2)) := by
        refine ⟨hmq, by rw [lb, zlen, cws_len _ (by omega)], nda, fun i z c h1 h2 => ?_⟩
        obtain ⟨q, hq⟩ : ∃ q, zs[i]? = some q := ⟨_, List.getElem?_eq_getElem (by rw [← lb]; exact (List.getElem?_eq_some_iff.mp h2).1)⟩
        have ez : z = wordG sts sts2 q.2.1 q.2.2 := by
          rw [← zn, List.getElem?_map, hq] at h1
          exact (Option.some.inj h1).symm
        obtain ⟨_, m1, m2⟩ := zin (List.mem_of_getElem? hq)
        rw [ob i q c hq h2]
        unfold rowT bothT
        rw [ez, pairG_word n1 n2 few m1 m2]
      refine k l nq mq bs _ (s08.trans s9) (s08.free hl0) nnq (s07.free hmq0) upd_same (s9 _ _ (s8 _ _ hnq7)) ?_
      rw [← en]
      exact m8.mono s9
end
end KT
set_option Elab.async false
set_option linter.all false
set_option maxRecDepth 100000
set_option maxHeartbeats 4000000
set_option pp.maxSteps 900
namespace KT
open PySem L2 PyProof.Rows DTp TxS DKq
def setT (t : Str → Str → Str) (s o y : Str) : Str → Str → Str := fun s' o' => if s' = s ∧ o' = o then y else t s' o'
section
variable {sts ds : List Str} {t : Str → Str → Str}
theorem MV.put (m : MV sts ds t) {s o y : Str} (hy : y ∈ sts) : MV sts ds (setT t s o y) where
  asc := m.asc
  ne := m.ne
  few := m.few
  wd := m.wd
  dsc := m.dsc
  dne := m.dne
  dfew := m.dfew
  dwd := m.dwd
  cl := fun s' hs o' ho => by
    unfold setT
    by_cases e : s' = s ∧ o' = o
    · rw [if_pos e]; exact hy
    · rw [if_neg e]; exact m.cl s' hs o' ho
theorem MvT.but {H H' : Hp} {a : Addr} (h : MvT H a sts ds t) {p : Addr} (b : But p H H') (n : ∀ (kvs : List (Key × V)), H p ≠ some (.dK kvs)) : MvT H' a sts ds t := by
  obtain ⟨ss, as, row, m, p2, k⟩ := h
  refine ⟨ss, as, row, ⟨b _ _ (fun e => n _ (by rw [← e]; exact m.at')) m.at', m.len, m.nda, fun i s c h1 h2 => b _ _ (fun e => n _ (by rw [← e]; exact m.inn i s c h1 h2)) (m.inn i s c h1 h2)⟩, p2, k⟩
theorem PurseAt.noK {H : Hp} {p : Addr} {B : Int} (h : PurseAt H p B) : ∀ (kvs : List (Key × V)), H p ≠ some (.dK kvs) := fun kvs e => by
  obtain ⟨_, _, _, _, e2, _⟩ := h
  rw [e] at e2; cases e2
theorem MvT.purse {H H' : Hp} {a p : Addr} {B : Int} (h : MvT H a sts ds t) (hP : PurseAt H p B) (b : But p H H') : MvT H' a sts ds t := h.but b hP.noK
theorem kof_put {dl : List (Str × Str)} {o y : Str} (nd : (keysD dl).Nodup) : keysD (dl.map fun p => if p.1 = o then (p.1, y) else p) = keysD dl ∧ ∀ x ∈ keysD dl, kof (dl.map fun p => if p.1 = o then (p.1, y) else p) x = if x = o then y else kof dl x := by
  have ek : keysD (dl.map fun p => if p.1 = o then (p.1, y) else p) = keysD dl := by
    unfold keysD
    rw [List.map_map]
    refine List.map_congr_left fun p _ => ?_
    show (if p.1 = o then (p.1, y) else p).1 = p.1
    split <;> rfl
  refine ⟨ek, fun x hx => ?_⟩
  obtain ⟨p, hp, rfl⟩ := List.mem_map.mp hx
  have hm : (if p.1 = o then (p.1, y) else p) ∈ dl.map fun p => if p.1 = o then (p.1, y) else p := List.mem_map.mpr ⟨p, hp, rfl⟩
  have := kof_mem (by rw [ek]; exact nd) hm
  by_cases e : p.1 = o
  · rw [if_pos e] at this ⊢
    exact this
  · rw [if_neg e] at this ⊢
    rw [this, kof_mem nd hp]
/-- an entry of an inner dict -/
theorem MvAt.but {H H' : Hp} {a p : Addr} {ss : List Str} {as : List Addr} {row : Str → List (Str × Str)} (m : MvAt H a ss as row) (b : But p H H') (n : ∀ (kvs : List (Key × V)), H p ≠ some (.dK kvs)) : MvAt H' a ss as row := ⟨b _ _ (fun e => n _ (by rw [← e]; exact m.at')) m.at', m.len, m.nda, fun i s c h1 h2 => b _ _ (fun e => n _ (by rw [← e]; exact m.inn i s c h1 h2)) (m.inn i s c h1 h2)⟩
theorem MvAt.has {H : Hp} {a : Addr} {ss : List Str} {as : List Addr} {row : Str → List (Str × Str)} (m : MvAt H a ss as row) (nss : ss.Nodup) {s : Str} (hs : s ∈ ss) : ∃ b, valV (mvK ss as) (Sum.inr s) = some (.ref b) := let ⟨b, vb, _⟩ := mvK_get m.inns nss hs; ⟨b, vb⟩
theorem MvAt.put {H : Hp} {a : Addr} {ss : List Str} {as : List Addr} {row : Str → List (Str × Str)} (m : MvAt H a ss as row) (p : ss.Perm sts) (k : ∀ s ∈ sts, (keysD (row s)).Perm ds ∧ ∀ o ∈ ds, kof (row s) o = t s o) (mv : MV sts ds t) {s o : Str} (hs : s ∈ sts) (ho : o ∈ ds) {b : Addr} (vb : valV (mvK ss as) (Sum.inr s) = some (.ref b)) : b ≠ a ∧ b ∈ as ∧ H b = some (.dK (dkv (row s))) ∧ (dkv (row s)).length < sizeLine ∧
    ∀ y, MvT (upd H b (.dK (putK (dkv (row s)) (Sum.inr o) (.str y)))) a sts ds (setT t s o y) := by
  have nss := p.nodup_iff.mpr mv.asc.nodup
  obtain ⟨b', vb', hb, mb⟩ := mvK_get m.inns nss (p.mem_iff.mpr hs)
  obtain rfl : b' = b := by
    have := vb'.symm.trans vb
    injection this with this
    injection this
  have nba : b' ≠ a := fun e => (List.nodup_cons.mp m.nda).1 (by rw [← e]; exact mb)
  obtain ⟨k1, k2⟩ := k s hs
  have nk : (keysD (row s)).Nodup := k1.nodup_iff.mpr mv.dsc.nodup
  have dfew := mv.dfew
  refine ⟨nba, mb, hb, by unfold dkv; rw [List.length_map, ← keysD_len, k1.length_eq, sizeLine_eq]; omega, fun y => ?_⟩
  rw [putK_dkv (k1.mem_iff.mpr ho)]
  obtain ⟨e1, e2⟩ := kof_put (o := o) (y := y) nk
  have ibs : ∀ {i : Nat} {s' : Str} {c : Addr}, ss[i]? = some s' → as[i]? = some c → c = b' → s' = s := fun {i s' c} h1 h2 e => by
    have h3 := mvK_get m.inns nss (List.mem_of_getElem? h1)
    obtain ⟨j, hj⟩ := List.mem_iff_getElem?.mp (p.mem_iff.mpr hs)
    obtain ⟨c2, hc2⟩ : ∃ c2, as[j]? = some c2 := ⟨_, List.getElem?_eq_getElem (by rw [m.len]; exact (List.getElem?_eq_some_iff.mp hj).1)⟩
    have vb2 := valV_mem (by rw [m.keys]; exact inr_nodup nss) (List.mem_map.mpr ⟨(s, c2), List.mem_of_getElem? (List.getElem?_zip_eq_some.mpr ⟨hj, hc2⟩), rfl⟩)
    have ecb : c2 = b' := by
      have := vb2.symm.trans vb
      injection this with this
      injection this
    rw [e, ← ecb] at h2
    have nas := (List.nodup_cons.mp m.nda).2
    have eij := (List.getElem?_inj (List.getElem?_eq_some_iff.mp h2).1 nas).mp (h2.trans hc2.symm)
    rw [eij, hj] at h1
    exact (Option.some.inj h1).symm
  refine ⟨ss, as, fun s' => if s' = s then (row s).map (fun p => if p.1 = o then (p.1, y) else p) else row s', ⟨(upd_ne (Ne.symm nba)).trans m.at', m.len, m.nda, fun i s' c h1 h2 => ?_⟩, p, fun s' hs' => ?_⟩
  · by_cases e : c = b'
    · have es := ibs h1 h2 e
      rw [e, es, upd_same]
      show _ = some (HO.dK (dkv (if s = s then _ else _)))
      rw [if_pos rfl]
    · have es : s' ≠ s := fun e2 => by
        have h3 := m.inn i s' c h1 h2
        have vb2 := valV_mem (by rw [m.keys]; exact inr_nodup nss) (List.mem_map.mpr ⟨(s', c), List.mem_of_getElem? (List.getElem?_zip_eq_some.mpr ⟨h1, h2⟩), rfl⟩)
        rw [e2] at vb2
        have := vb2.symm.trans vb
        injection this with this
        injection this with this
        exact e this
      rw [upd_ne e]
      show _ = some (HO.dK (dkv (if s' = s then _ else _)))
      rw [if_neg es]
      exact m.inn i s' c h1 h2
  · by_cases e : s' = s
    · subst e
      dsimp only
      rw [if_pos rfl, e1]
      refine ⟨k1, fun o' ho' => ?_⟩
      rw [e2 o' (k1.mem_iff.mpr ho')]
      unfold setT
      by_cases e : o' = o
      · rw [if_pos e, if_pos ⟨rfl, e⟩]
      · rw [if_neg e, if_neg (fun z => e z.2), k2 o' ho']
    · dsimp only
      rw [if_neg e]
      refine ⟨(k s' hs').1, fun o' ho' => ?_⟩
      unfold setT
      rw [if_neg (fun z => e z.1)]
      exact (k s' hs').2 o' ho'
end
/-- one_of(purse, sorted(dict of texts)) -/
theorem oneSortR {tx : TE} {σ : L2.St} {H : Hp} {Q : VK} {p a : Addr} {kvs : List (Key × V)} {ks : List Str} {B : Int} {E : XK} (h0 : σ[0]? = some (some (.ref p))) (hx : ∀ R : VK, R (.ref a) H → tx σ H R) (ha : Rd H a (.dK kvs)) (ek : kvs.map (·.1) = ks.map Sum.inr) (few : ks.length < 64) (ne : ks ≠ []) (hP : PurseAt H p B) (b0 : 0 ≤ B) (b9 : B ≤ 1000000)
    (k : ∀ x H', x ∈ ks → But p H H' → PurseAt H' p (B + 4) → Q (.str x) H') : tCall spOneOf [] E (tCons (tVar 0) (tCons (tCB rSortD (tCons tx tNil)) tNil)) σ H Q := by
  refine ⟨_, h0, hx _ ⟨a, kvs, ks, rfl, ha, ek, few, fun ys q pq so hq0 => ?_⟩⟩
  have s1 := Same.new (H := H) (o := .lst (ys.map V.str)) hq0
  have npq := hP.ne hq0
  refine ⟨p, q, ys.map V.str, B, rfl, npq, hP.mono s1, b0, b9, upd_same, by rw [List.length_map, pq.length_eq]; exact List.length_pos_iff.mpr ne, by rw [List.length_map, pq.length_eq]; omega, fun x H' hx bt hP' => ?_⟩
  obtain ⟨y, my, rfl⟩ := List.mem_map.mp hx
  exact k y H' (pq.mem_iff.mp my) (fun c o nc e => bt _ _ nc (s1 _ _ e)) hP'
section
variable {P : Program} {w : World} {K : PySem.W.Frag} {mg : Str → Option Value} {base : Heap} {G : Addr}
def spSomeMv : Sp := fun vs H Q _ => ∃ (p s td da tl : Addr) (B : Int) (ws : List Str) (f : Str → Str → Str) (dl : List (Str × Str)) (tw : List Str), vs = [.ref p, .ref s] ∧ PurseAt H p B ∧ 0 ≤ B ∧ B ≤ 800000 ∧ SetAt H s td da tl ws f dl tw ∧ keysD dl ≠ [] ∧
  ∀ q H', But p H H' → PurseAt H' p (B + 3000) → H q = none → SomeMv H H' (keysD dl) q → Q (.ref q) H'
abbrev nSomeMv : List Str := ["_law_purse_here", "_law_setting_here", "_law_way", "_law_moves", "_law_state"]
theorem scSomeMv : FnScope nSomeMv ["_law_purse_here", "_law_setting_here"] (defScope sSomeMv) := ⟨rfl, rfl, rfl, by decide +kernel, rfl, by decide +kernel, by decide +kernel⟩
structure SmC (P : Program) (w : World) (K : PySem.W.Frag) (mg : Str → Option Value) (base : Heap) : Prop where
  draw : DrawC P w K mg base
  one : Cee P w K mg base 3 "_law_one_of" ["_law_purse_here", "_law_some"] spOneOf
  kept : Cee P w K mg base 2 "_law_kept_store" ["_law_setting_here"] spKM
  last : Cee P w K mg base 1 "_law_last_store" ["_law_setting_here", "_law_deed"] spLast
  kof : Cee P w K mg base 1 "_law_kinds_of" ["_law_table_here"] spKindsOf
  pair : Cee P w K mg base 2 "_law_paired" ["_law_one", "_law_other"] spPaired
  same : Cee P w K mg base 4 "_law_same" ["_law_thing"] (spSame 3)
  drawn : Cee P w K mg base 5 "_law_drawn_moves" ["_law_purse_here", "_law_setting_here", "_law_most"] spDrawnMv
theorem ok_someMv {g : Addr} {fd : FuncData} (F : Fun K "_law_some_moves" "_law_some_moves" sSomeMv g fd) (B0 : Blt mg) (Z : Blp mg) (M : SmC P w K mg base) : FnOk P w K mg base CX0 6 g fd ["_law_purse_here", "_law_setting_here"] spSomeMv := by
  refine F.ok scSomeMv (fun vs H Q E h => ?_) (fun cdv A outer s H vs Q E hr h => ?_)
  · obtain ⟨p, s, td, da, tl, B, ws, f, dl, tw, rfl, _⟩ := h
    rfl
  · obtain ⟨p, s0, td, da, tl, B, ws, f, dl, tw, rfl, hP, b0, b9, se, dne, k⟩ := h
    have nd := scSomeMv.nd
    refine ⟨_, pss_cons (ps_set (i := 2) nd rfl (Or.inl rfl) (pe_c M.draw hr rfl (pa_cons (pv 0) (pa_cons pe_int pa_nil))))
      (pss_cons (ps_if (pt_cmpR op_eq (pv 2) pe_int (nomark _)) (pss_one (ps_ret (pe_c M.kept hr rfl (pa_cons (pv 1) pa_nil)))) pss_nil)
      (pss_cons (ps_if (pt_cmpR op_eq (pv 2) pe_int (nomark _)) (pss_one (ps_ret (pe_c M.last hr rfl (pa_cons (pv 1) (pa_cons (pe_c M.one hr rfl (pa_cons (pv 0) (pa_cons (pe_callB (cr_sortD rfl) (by rfl) Z.sorted (by decide +kernel) (pa_cons (pe_ix ix_list (pv 1) pe_int (fun _ _ => rfl)) pa_nil)) pa_nil))) pa_nil))))) pss_nil)
      (pss_cons (ps_if (pt_cut <| PW.pt (pw_and (pt_cmpR op_eq (pv 2) pe_int (nomark _)) (pw_and1 (pt_cmpR op_lt (pe_callB cr_lenS (by rfl) B0.len PySem.boot_len (pa_cons (pe_c M.kof hr rfl (pa_cons (pe_ix ix_list (pv 1) pe_int (fun _ _ => rfl)) pa_nil)) pa_nil)) pe_int (nomark _)))))
        (pss_one (ps_ret (pe_ix ix_list (pe_c M.pair hr rfl (pa_cons (pe_c M.kept hr rfl (pa_cons (pv 1) pa_nil)) (pa_cons (pe_c M.last hr rfl (pa_cons (pv 1) (pa_cons (pe_c M.one hr rfl (pa_cons (pv 0) (pa_cons (pe_callB (cr_sortD rfl) (by rfl) Z.sorted (by decide +kernel) (pa_cons (pe_ix ix_list (pv 1) pe_int (fun _ _ => rfl)) pa_nil)) pa_nil))) pa_nil))) pa_nil))) pe_int (fun _ _ => rfl)))) pss_nil)
      (pss_cons (ps_if (pt_cmpR op_eq (pv 2) pe_int (nomark _))
        (pss_cons (ps_set (i := 3) nd rfl (Or.inl rfl) (pe_c M.same hr rfl (pa_cons (pe_c M.kept hr rfl (pa_cons (pv 1) pa_nil)) pa_nil)))
        (pss_cons (ps_set (i := 4) nd rfl (Or.inl rfl) (pe_c M.one hr rfl (pa_cons (pv 0) (pa_cons (pe_callB (cr_sortD rfl) (by rfl) Z.sorted (by decide +kernel) (pa_cons (pv 3) pa_nil)) pa_nil))))
        (pss_cons (ps_dput (hu_of hr) (pe_dget (hu_of hr) (pv 3) (pv 4) (fun _ _ => rfl)) (pe_c M.one hr rfl (pa_cons (pv 0) (pa_cons (pe_callB (cr_sortD rfl) (by rfl) Z.sorted (by decide +kernel) (pa_cons (pe_ix ix_list (pv 1) pe_int (fun _ _ => rfl)) pa_nil)) pa_nil))) (pe_c M.one hr rfl (pa_cons (pv 0) (pa_cons (pe_callB (cr_sortD rfl) (by rfl) Z.sorted (by decide +kernel) (pa_cons (pv 3) pa_nil)) pa_nil))) rfl)
        (pss_one (ps_ret (pv 3)))))) pss_nil)
      (pss_one (ps_ret (pe_c M.drawn hr rfl (pa_cons (pv 0) (pa_cons (pv 1) (pa_cons pe_int pa_nil)))))))))), ?_⟩
    refine ⟨_, rfl, p, 5, B, rfl, hP, b0, by omega, by decide, by decide, fun r H1 bt1 hP1 r0 r1 => ?_⟩
    refine at_name (σ' := [some (.ref p), some (.ref s0), some (.int r), none, none]) rfl ?_
    have se1 := se.purse hP bt1
    have ldl : (keysD dl).length ≤ 8 := by rw [keysD_len]; exact se.ok.few
    have kw := se.kw
    have l4 := kw.few
    have kmv := keptMV kw se.ok se.asc dne
    have klen : (kSts ws.length).length ≤ 5 := by
      rw [← kW_map kw, List.length_cons, List.length_map]
      omega
    have nps : p ≠ s0 := by
      obtain ⟨a1, b1, c1, d1, e, _⟩ := hP
      refine ne_of e se.hs ?_
      intro z
      injection z with z
      injection z with z _
      cases z
    -- the kept store
    refine ⟨_, rfl, rfl, _, rfl, ite2 (fun _ => ?_) (fun _ => ?_)⟩
    · exact ⟨_, rfl, s0, td, da, tl, ws, f, dl, tw, rfl, se1, fun q H2 s2 hq0 mt => k q H2 (bt1.same s2) ((hP1.mono s2).le (by omega)) (bt1.free hP1 hq0) ⟨_, _, mt, kmv, by omega⟩⟩
    -- the last store
    refine ⟨_, rfl, rfl, _, rfl, ite2 (fun _ => ?_) (fun _ => ?_)⟩
    · refine ⟨_, rfl, ?_⟩
      refine oneSortR (p := p) (a := da) rfl (fun R h => ⟨_, rfl, s0, _, 1, _, rfl, rfl, SqL.of se1.hs, atI_nat (j := 1) rfl, h⟩) (.inl se1.hd) (dkv_keys _) (by omega) dne hP1 (by omega) (by omega) fun x H2 hx bt2 hP2 => ?_
      exact ⟨s0, td, da, tl, ws, f, dl, tw, x, rfl, se1.purse hP1 bt2, fun q H3 s3 hq0 mt => k q H3 ((bt1.trans bt2).same s3) ((hP2.mono s3).le (by omega)) ((bt1.trans bt2).free hP2 hq0) ⟨_, _, mt, lastMV se.ok se.asc dne x, by show 2 ≤ 6; decide⟩⟩
    -- both
    refine ⟨fun b H' => L2.Same H1 H' ∧ (b = true → ws.length < 3), ?_, ?_⟩
    · refine ⟨_, rfl, rfl, _, rfl, ite2 (fun _ => ?_) (fun _ => ⟨fun _ _ e => e, fun e => by cases e⟩)⟩
      refine ⟨_, rfl, s0, _, 0, _, rfl, rfl, SqL.of se1.hs, atI_nat (j := 0) rfl, td, ws, f, rfl, se1.ht, kw, fun kq H2 s2 _ hkq => ?_⟩
      refine ⟨kq, _, rfl, .inl (SqL.of hkq), _, _, rfl, rfl, _, rfl, ?_⟩
      refine ⟨s2, fun e => ?_⟩
      have := of_decide_eq_true e
      rw [List.length_map] at this
      omega
    rintro b H2 ⟨s2, w3⟩
    have se2 := se1.mono s2
    have hP2 := hP1.mono s2
    refine ite2 (fun hb => ?_) (fun _ => ?_)
    · have w3 := w3 hb
      have klen3 : (kSts ws.length).length ≤ 3 := by
        rw [← kW_map kw, List.length_cons, List.length_map]
        omega
      refine ⟨_, rfl, s0, td, da, tl, ws, f, dl, tw, rfl, se2, fun q1 H3 s3 hq10 mt1 => ?_⟩
      have se3 := se2.mono s3
      have hP3 := hP2.mono s3
      refine ⟨_, rfl, ?_⟩
      refine oneSortR (p := p) (a := da) rfl (fun R h => ⟨_, rfl, s0, _, 1, _, rfl, rfl, SqL.of se3.hs, atI_nat (j := 1) rfl, h⟩) (.inl se3.hd) (dkv_keys _) (by omega) dne hP3 (by omega) (by omega) fun x H4 hx bt4 hP4 => ?_
      have bt04 : But p H H4 := ((bt1.same s2).same s3).trans bt4
      refine ⟨s0, td, da, tl, ws, f, dl, tw, x, rfl, se3.purse hP3 bt4, fun q2 H5 s5 hq20 mt2 => ?_⟩
      have lmv := lastMV se.ok se.asc dne x
      refine ⟨q1, q2, kSts ws.length, lastS, keysD dl, _, _, rfl, (mt1.purse hP3 bt4).mono s5, kmv, mt2, lmv, by show _ * 2 < 64; omega, fun l nq mq bs H6 s6 hl0 hnq0 hmq0 hl hnq hm => ?_⟩
      refine ⟨l, _, 1, _, rfl, rfl, SqL.of hl, atI_nat (j := 1) rfl, ?_⟩
      have bt05 := bt04.same s5
      have hP5 := hP4.mono s5
      have bmv := bothMV kmv lmv (by show _ * 2 < 64; omega)
      exact k mq H6 (bt05.same s6) ((hP5.mono s6).le (by omega)) (bt05.free hP5 hmq0) ⟨_, _, ⟨_, bs, _, hm, (ascOf_perm _).symm, fun s _ => ⟨by rw [rowT_keys], fun o ho => kof_rowT se.asc.nodup _ s ho⟩⟩, bmv, by rw [(ascOf_perm _).length_eq, cws_len _ (by show _ * 2 ≤ _; omega)]; show _ * 2 ≤ 6; omega⟩
    -- bent
    refine ⟨_, rfl, rfl, _, rfl, ite2 (fun _ => ?_) (fun _ => ?_)⟩
    · refine ⟨_, rfl, s0, td, da, tl, ws, f, dl, tw, rfl, se2, fun q1 H3 s3 hq10 mt1 => ?_⟩
      have se3 := se2.mono s3
      have hP3 := hP2.mono s3
      obtain ⟨ss, as, row, m1, p1, k1⟩ := mt1
      refine ⟨_, rfl, .inr (.inr ⟨q1, ss, as, row, by decide, rfl, m1, p1.nodup_iff.mpr kmv.asc.nodup, by rw [p1.length_eq]; omega, fun s hs => ?_, fun d bs H4 s4 hd0 fr m4 => ?_⟩)⟩
      · obtain ⟨k2, k3⟩ := k1 s (p1.mem_iff.mp hs)
        exact ⟨k2.nodup_iff.mpr kmv.dsc.nodup, by rw [← keysD_len, k2.length_eq]; omega⟩
      have se4 := se3.mono s4
      have hP4 := hP3.mono s4
      refine at_name (σ' := [some (.ref p), some (.ref s0), some (.int r), some (.ref d), none]) rfl ?_
      have mt4 : MvT H4 d (kSts ws.length) (keysD dl) (kT ws f dl) := ⟨ss, bs, row, m4, p1, k1⟩
      have lss : ss.length ≤ 5 := by rw [p1.length_eq]; omega
      have ssne : ss ≠ [] := fun e => kmv.ne (by rw [e] at p1; exact p1.symm.eq_nil)
      refine oneSortR (p := p) (a := d) rfl (fun R h => ⟨_, rfl, h⟩) (.inl m4.at') m4.keys (by omega) ssne hP4 (by omega) (by omega) fun z H5 hz bt5 hP5 => ?_
      refine at_name (σ' := [some (.ref p), some (.ref s0), some (.int r), some (.ref d), some (.str z)]) rfl ?_
      have mt5 := mt4.purse hP4 bt5
      obtain ⟨ss5, as5, row5, m5, p5, k5⟩ := id mt5
      refine oneSortR (p := p) (a := d) rfl (fun R h => ⟨_, rfl, h⟩) (.inl m5.at') m5.keys (by rw [p5.length_eq]; omega) (fun e => kmv.ne (by rw [e] at p5; exact p5.symm.eq_nil)) hP5 (by omega) (by omega) fun y H6 hy bt6 hP6 => ?_
      have m6 := (m4.but bt5 hP4.noK).but bt6 hP5.noK
      obtain ⟨b, vb⟩ := m6.has (p1.nodup_iff.mpr kmv.asc.nodup) hz
      have dg : DGet H6 d (.str z) (some (.ref b)) := by
        have := DGet.k (k := Sum.inr z) (show H6 d = some (.dK (mvK ss bs)) from m6.at')
        rw [vb] at this
        exact this
      refine ⟨_, rfl, _, rfl, d, _, rfl, dg, ?_⟩
      have se6 := (se4.purse hP4 bt5).purse hP5 bt6
      refine oneSortR (p := p) (a := da) rfl (fun R h => ⟨_, rfl, s0, _, 1, _, rfl, rfl, SqL.of se6.hs, atI_nat (j := 1) rfl, h⟩) (.inl se6.hd) (dkv_keys _) (by omega) dne hP6 (by omega) (by omega) fun o H7 ho bt7 hP7 => ?_
      have m7 := m6.but bt7 hP6.noK
      obtain ⟨nbd, mb, hb, lb, put⟩ := m7.put p1 k1 kmv (p1.mem_iff.mp hz) ho vb
      refine ⟨b, _, rfl, DPut.k (k := Sum.inr o) hb lb, ?_⟩
      have hyS : y ∈ kSts ws.length := p5.mem_iff.mp hy
      have btA : But p H H4 := ((bt1.same s2).same s3).same s4
      have btB : But p H H7 := ((btA.trans bt5).trans bt6).trans bt7
      have fb : H b = none := ((bt1.same s2).same s3).free hP3 (fr b mb)
      have npb : p ≠ b := fun e => by
        obtain ⟨_, _, _, _, e2, _⟩ := hP
        rw [e, fb] at e2; cases e2
      exact ⟨_, rfl, k d _ (btB.back fb) ((hP7.upd npb).le (by omega)) (((bt1.same s2).same s3).free hP3 hd0) ⟨_, _, put y, kmv.put hyS, by omega⟩⟩
    · refine ⟨_, rfl, _, rfl, p, s0, td, da, tl, _, ws, f, dl, tw, rfl, hP2, by omega, by omega, se2, dne, fun q H3 bt3 hP3 hq0 sm => ?_⟩
      have bt02 := bt1.same s2
      exact k q H3 (bt02.trans bt3) (hP3.le (by omega)) (bt02.free hP2 hq0) sm
end
end KT
set_option Elab.async false
set_option linter.all false
set_option maxRecDepth 100000
set_option maxHeartbeats 4000000
set_option pp.maxSteps 900
namespace KT
open PySem L2 PyProof.Rows DTp TxS DKq
theorem FnOk.or {P : Program} {w : World} {K : PySem.W.Frag} {mg : Str → Option Value} {base : Heap} {CX : CXT} {k : Nat} {f : Addr} {fd : FuncData} {ps : List Str} {sp sp' : Sp} (F : L2.FnOk P w K mg base CX k f fd ps sp) (F' : L2.FnOk P w K mg base CX k f fd ps sp') : L2.FnOk P w K mg base CX k f fd ps (fun vs H Q E => sp vs H Q E ∨ sp' vs H Q E) :=
  ⟨fun vs H Q E q => q.elim (F.len vs H Q E) (F'.len vs H Q E), fun A outer s H args us vs Q E hr he hb hv hs => hs.elim (F.run A outer s H args us vs Q E hr he hb hv) (F'.run A outer s H args us vs Q E hr he hb hv)⟩
def AlikeD : Nat → Hp → V → V → Prop
  | 0, _, _, _ => False
  | n + 1, H, v, w => Alike (n + 1) H v w ∨ (∃ (a b : Addr) (xs ys : List V), v = .ref a ∧ w = .ref b ∧ H a = some (.lst xs) ∧ H b = some (.lst ys) ∧ xs.length ≤ 100 ∧ Paired (AlikeD n H) xs ys) ∨
    ∃ (a b : Addr) (kvs kvs2 : List (Key × V)) (ks : List Str), 2 ≤ n ∧ v = .ref a ∧ w = .ref b ∧ a ≠ b ∧ H a = some (.dK kvs) ∧ H b = some (.dK kvs2) ∧ kvs.map (·.1) = ks.map Sum.inr ∧ kvs2.map (·.1) = ks.map Sum.inr ∧ ks.Nodup ∧ ks.length ≤ 100 ∧
      ∀ s ∈ ks, ∃ x y, valV kvs (Sum.inr s) = some x ∧ valV kvs2 (Sum.inr s) = some y ∧ ∀ od, AlikeD n (upd H a (.frz od (.dK kvs))) x y
theorem upd_sameS {H H' : Hp} (s : L2.Same H H') (a : Addr) (o : HO) : L2.Same (upd H a o) (upd H' a o) := fun c u e => by
  by_cases h : c = a
  · rw [h, upd_same] at e ⊢; exact e
  · rw [upd_ne h] at e ⊢; exact s _ _ e
theorem AlikeD.mono : ∀ {n : Nat} {H H' : Hp} {v w : V}, L2.Same H H' → AlikeD n H v w → AlikeD n H' v w
  | 0, _, _, _, _, _, h => h
  | n + 1, _, _, _, _, s, h => by
    rcases h with h | ⟨a, b, xs, ys, e1, e2, h1, h2, l, p⟩ | ⟨a, b, kvs, kvs2, ks, n2, e1, e2, nab, h1, h2, k1, k2, nd, l, al⟩
    · exact .inl (h.mono s)
    · exact .inr (.inl ⟨a, b, xs, ys, e1, e2, s _ _ h1, s _ _ h2, l, Paired.mapP p fun _ _ q => AlikeD.mono s q⟩)
    · exact .inr (.inr ⟨a, b, kvs, kvs2, ks, n2, e1, e2, nab, s _ _ h1, s _ _ h2, k1, k2, nd, l, fun z hz => let ⟨x, y, vx, vy, ax⟩ := al z hz; ⟨x, y, vx, vy, fun od => AlikeD.mono (upd_sameS s _ _) (ax od)⟩⟩)
def spExactD (n : Nat) : Sp := fun vs H Q _ => ∃ v w : V, vs = [v, w] ∧ AlikeD n H v w ∧ ∀ H', L2.Same H H' → Q (.bl true) H'
section
variable {P : Program} {w : World} {K : PySem.W.Frag} {mg : Str → Option Value} {base : Heap}
/-- the two new cases -/
def spExactE (n : Nat) : Sp := fun vs H Q _ => ∃ v w : V, vs = [v, w] ∧ ((∃ (a b : Addr) (xs ys : List V), v = .ref a ∧ w = .ref b ∧ H a = some (.lst xs) ∧ H b = some (.lst ys) ∧ xs.length ≤ 100 ∧ Paired (AlikeD n H) xs ys) ∨
    ∃ (a b : Addr) (kvs kvs2 : List (Key × V)) (ks : List Str), 2 ≤ n ∧ v = .ref a ∧ w = .ref b ∧ a ≠ b ∧ H a = some (.dK kvs) ∧ H b = some (.dK kvs2) ∧ kvs.map (·.1) = ks.map Sum.inr ∧ kvs2.map (·.1) = ks.map Sum.inr ∧ ks.Nodup ∧ ks.length ≤ 100 ∧
      ∀ s ∈ ks, ∃ x y, valV kvs (Sum.inr s) = some x ∧ valV kvs2 (Sum.inr s) = some y ∧ ∀ od, AlikeD n (upd H a (.frz od (.dK kvs))) x y) ∧ ∀ H', L2.Same H H' → Q (.bl true) H'
theorem step_exactE {f : Addr} {fd : FuncData} (F : Fun K "_law_exact" "_law_exact" sExact f fd) (B : Blt mg) (Z : Blp mg) (hz : mg "zip" = none) {n : Nat} (C : Cee P w K mg base (n + 1) "_law_exact" ["_law_mine", "_law_theirs"] (spExactD n)) : FnOk P w K mg base CX0 (n + 2) f fd ["_law_mine", "_law_theirs"] (spExactE n) := by
  refine F.ok scExact (fun vs H Q E h => ?_) (fun cdv A outer s H vs Q E hr h => ?_)
  · obtain ⟨v, w2, rfl, _⟩ := h
    rfl
  · obtain ⟨v, w2, rfl, al, k⟩ := h
    have nd := scExact.nd
    refine ⟨_, pss_cons (ps_if (pt_val (pe_callB call_isiT (by rfl) Z.isi boot_isi (pa_cons (pv 0) (pa_cons (pe_tup (pa_cons (pe_bltn (v := .ty "list") (by rfl) Z.list (by decide +kernel) rfl) (pa_cons (pe_bltn (v := .ty "tuple") (by rfl) Z.tuple (by decide +kernel) rfl) pa_nil))) pa_nil))))
        (pss_cons (ps_set (i := 2) nd rfl (Or.inl rfl) (pe_and (pe_cmpR op_eq (pe_callB call_isi (by rfl) Z.isi boot_isi (pa_cons (pv 1) (pa_cons (pe_bltn (v := .ty "list") (by rfl) Z.list (by decide +kernel) rfl) pa_nil))) (pe_callB call_isi (by rfl) Z.isi boot_isi (pa_cons (pv 0) (pa_cons (pe_bltn (v := .ty "list") (by rfl) Z.list (by decide +kernel) rfl) pa_nil))) (nomark _)) (pe_one (pe_cmpR op_eq (pe_callB call_isi (by rfl) Z.isi boot_isi (pa_cons (pv 1) (pa_cons (pe_bltn (v := .ty "tuple") (by rfl) Z.tuple (by decide +kernel) rfl) pa_nil))) (pe_callB call_isi (by rfl) Z.isi boot_isi (pa_cons (pv 0) (pa_cons (pe_bltn (v := .ty "tuple") (by rfl) Z.tuple (by decide +kernel) rfl) pa_nil))) (nomark _)))))
        (pss_one (ps_ret (pe_and (pv 2) (pe_and (pe_cmpR op_eq (pe_callB call_len_seq (by rfl) B.len PySem.boot_len (pa_cons (pv 0) pa_nil)) (pe_callB call_len_seq (by rfl) B.len PySem.boot_len (pa_cons (pv 1) pa_nil)) (nomark _)) (pe_one (pe_callB (cr_all rfl) (by rfl) Z.all (by decide +kernel) (pa_cons
          (pe_lc (own := [("_law_a", 3), ("_law_b", 4)]) (g := gXY K 3 4) (tt := tYes) (te := tCall (spExactD n) [] E0 (tCons (tVar 3) (tCons (tVar 4) tNil))) rfl nd (RZ.pi_zipA (by rfl) hz (pa_cons (pv 0) (pa_cons (pv 1) pa_nil))) (blkOk_by (own := [("_law_a", 3), ("_law_b", 4)]) (N := nExact) (sc := defScope sExact) (by decide +kernel))
            (fun _ _ _ _ _ => pg_tup rfl (pgs_cons (pg_name (i := 3) nd rfl (Or.inl rfl)) (pgs_cons (pg_name (i := 4) nd rfl (Or.inl rfl)) pgs_nil))) (fun _ _ _ _ _ => pts_nil) (fun _ _ _ _ _ => pe_c C hr rfl (pa_cons (pv 3) (pa_cons (pv 4) pa_nil)) (Nat.le_refl _))) pa_nil)))))))) pss_nil)
      (pss_cons (ps_if (pt_val (pe_callB call_isi (by rfl) Z.isi boot_isi (pa_cons (pv 0) (pa_cons (pe_bltn (v := .ty "dict") (by rfl) Z.dict (by decide +kernel) rfl) pa_nil))))
        (pss_cons (ps_set (i := 2) nd rfl (Or.inl rfl) (pe_and (pe_callB call_isi (by rfl) Z.isi boot_isi (pa_cons (pv 1) (pa_cons (pe_bltn (v := .ty "dict") (by rfl) Z.dict (by decide +kernel) rfl) pa_nil))) (pe_one (pe_c C hr rfl (pa_cons (pe_callTy (call_list_dK rfl) (by rfl) Z.list (by decide +kernel) (pa_cons (pv 0) pa_nil)) (pa_cons (pe_callTy (call_list_dK rfl) (by rfl) Z.list (by decide +kernel) (pa_cons (pv 1) pa_nil)) pa_nil)) (Nat.le_refl _)))))
        (pss_one (ps_ret (pe_and (pv 2) (pe_one (pe_callB (cr_all rfl) (by rfl) Z.all (by decide +kernel) (pa_cons (pe_lock
          (pe_lc (own := [("_law_key", 5)]) (g := gName 5) (tt := tYes) (te := tCall (spExactD n) [] E0 (tCons (tDGet (tVar 0) (tVar 5)) (tCons (tDGet (tVar 1) (tVar 5)) tNil))) rfl nd (pi_keys (pv 0)) (blkOk_by (own := [("_law_key", 5)]) (N := nExact) (sc := defScope sExact) (by decide +kernel))
            (fun _ _ _ _ _ => pg_name (i := 5) nd rfl (Or.inl rfl)) (fun _ _ _ _ _ => pts_nil) (fun _ _ _ _ _ => pe_c C hr rfl (pa_cons (pe_dget (hu_of hr) (pv 0) (pv 5) (fun _ _ => rfl)) (pa_cons (pe_dget (hu_of hr) (pv 1) (pv 5) (fun _ _ => rfl)) pa_nil)) (Nat.le_refl _)))) pa_nil))))))) pss_nil)
      (pss_cons (ps_set (i := 2) nd rfl (Or.inl rfl) (pe_cmpR op_eq (pe_callB call_isi (by rfl) Z.isi boot_isi (pa_cons (pv 0) (pa_cons (pe_bltn (v := .ty "int") (by rfl) B.int boot_int rfl) pa_nil))) (pe_callB call_isi (by rfl) Z.isi boot_isi (pa_cons (pv 1) (pa_cons (pe_bltn (v := .ty "int") (by rfl) B.int boot_int rfl) pa_nil))) (nomark _)))
      (pss_one (ps_ret (pe_and (pv 2) (pe_and (pe_cmpR op_eq (pe_callB call_isi (by rfl) Z.isi boot_isi (pa_cons (pv 0) (pa_cons (pe_bltn (v := .ty "bool") (by rfl) Z.bool (by decide +kernel) rfl) pa_nil))) (pe_callB call_isi (by rfl) Z.isi boot_isi (pa_cons (pv 1) (pa_cons (pe_bltn (v := .ty "bool") (by rfl) Z.bool (by decide +kernel) rfl) pa_nil))) (nomark _)) (pe_one (pe_cmpR op_eq (pv 0) (pv 1) (nomark _))))))))), ?_⟩
    rcases al with ⟨a, b, xs, ys, rfl, rfl, ha, hb, hl, pr⟩ | ⟨a, b, kvs, kvs2, ks, n2, rfl, rfl, nab, ha, hb, ek, ek2, ndk, few, al⟩
    · skip
      refine ⟨_, rfl, (by show 2 ≤ sizeLine; decide), fun tp htp => ?_⟩
      have s1 := Same.new (H := H) (o := .tup [.ty "list", .ty "tuple"]) htp
      have etp : upd H tp (.tup [.ty "list", .ty "tuple"]) tp = _ := upd_same
      generalize upd H tp (.tup [.ty "list", .ty "tuple"]) = G at s1 etp ⊢
      refine ⟨_, tp, _, _, _, true, rfl, etp, two_cls, .base (.lst (s1 _ _ ha)), kit2L, _, rfl, iteT ?_⟩
      refine ⟨_, rfl, _, _, _, _, true, rfl, .ty _, .base (.lst (s1 _ _ hb)), kit_ty (by decide +kernel), _, rfl, _, _, _, _, true, rfl, .ty _, .base (.lst (s1 _ _ ha)), kit_ty (by decide +kernel), rfl, ?_⟩
      rw [bl_eq]
      refine ⟨_, rfl, iteT ?_⟩
      refine ⟨_, rfl, _, _, _, _, false, rfl, .ty _, .base (.lst (s1 _ _ hb)), kit_ty (by decide +kernel), _, rfl, _, _, _, _, false, rfl, .ty _, .base (.lst (s1 _ _ ha)), kit_ty (by decide +kernel), rfl, ?_⟩
      rw [bl_eq]
      refine at_name (σ' := [some (.ref a), some (.ref b), some (.bl true), none, none, none]) rfl ?_
      refine ⟨_, rfl, _, rfl, iteT ?_⟩
      refine ⟨_, rfl, a, _, rfl, .inl (SqL.of (s1 _ _ ha)), _, rfl, b, _, rfl, .inl (SqL.of (s1 _ _ hb)), rfl, ?_⟩
      have hlen := Paired.length pr
      rw [hlen, decide_eq_true rfl]
      refine ⟨_, rfl, iteT ?_⟩
      refine ⟨_, rfl, _, rfl, a, b, xs, ys, rfl, .inl ⟨SqL.of (s1 _ _ ha), SqL.of (s1 _ _ hb), fun D hD => ?_⟩⟩
      refine lc_true (walk_zip (K := K) (a := a) (b := b) (xs := xs) (ys := ys) rfl) (by omega) hD (fun H' s => ⟨SqL.of (s _ _ (s1 _ _ ha)), SqL.of (s _ _ (s1 _ _ hb))⟩) ?_ ?_
      · rintro i v H1 H2 R hi s2 ⟨T, x, y, rfl, hT, rfl, hx, hy⟩ kR
        have s3 := Same.new (H := H1) (o := .tup [x, y]) hT
        have alk : AlikeD n (upd H1 T (.tup [x, y])) x y := ((paired_nth pr i x y hx hy).mono s1 |>.mono s2).mono s3
        refine ⟨T, _, rfl, SqT.of upd_same, rfl, _, _, rfl, at_name (σ' := [some (.ref a), some (.ref b), some (.bl true), some x, none, none]) rfl ⟨_, _, rfl, at_name (σ' := [some (.ref a), some (.ref b), some (.bl true), some x, some y, none]) rfl ⟨rfl, rfl, ?_⟩⟩⟩
        exact ⟨_, rfl, _, rfl, x, y, rfl, alk, fun H3 s4 => kR _ fun c o e => s4 _ _ (s3 _ _ e)⟩
      · intro H1 s2 hD1
        refine ⟨D, _, rfl, SqL.of hD1, ?_⟩
        rw [all_true]
        exact k _ fun c o e => s2 _ _ (s1 _ _ e)
    · skip
      refine ⟨_, rfl, (by show 2 ≤ sizeLine; decide), fun tp htp => ?_⟩
      have s1 := Same.new (H := H) (o := .tup [.ty "list", .ty "tuple"]) htp
      have etp : upd H tp (.tup [.ty "list", .ty "tuple"]) tp = _ := upd_same
      generalize upd H tp (.tup [.ty "list", .ty "tuple"]) = G at s1 etp ⊢
      refine ⟨_, tp, _, _, _, false, rfl, etp, two_cls, .base (.dK (s1 _ _ ha)), kit2F (by decide +kernel) (by decide +kernel), _, rfl, iteF ?_⟩
      refine ⟨_, rfl, _, _, _, _, true, rfl, .ty _, .base (.dK (s1 _ _ ha)), kit_ty (by decide +kernel), _, rfl, iteT ?_⟩
      refine ⟨_, rfl, _, _, _, _, true, rfl, .ty _, .base (.dK (s1 _ _ hb)), kit_ty (by decide +kernel), _, rfl, iteT ?_⟩
      have sk : ∀ {L : List (Key × V)}, L.map (·.1) = ks.map Sum.inr → (L.map fun kv => kV kv.1) = ks.map V.str := fun {L} ek => by
        have e := congrArg (List.map kV) ek
        rw [List.map_map, List.map_map] at e
        exact e
      have lk : kvs.length = ks.length := by have := congrArg List.length ek; rw [List.length_map, List.length_map] at this; exact this
      refine ⟨_, rfl, a, kvs, rfl, s1 _ _ ha, fun l1 hl1 => ?_⟩
      rw [sk ek]
      have c1 := Same.new (H := G) (o := .lst (ks.map V.str)) hl1
      have c2 : upd G l1 (.lst (ks.map V.str)) l1 = _ := upd_same
      generalize upd G l1 (.lst (ks.map V.str)) = G1 at c1 c2 ⊢
      refine ⟨_, rfl, b, kvs2, rfl, c1 _ _ (s1 _ _ hb), fun l2 hl2 => ?_⟩
      rw [sk ek2]
      have d1 := Same.new (H := G1) (o := .lst (ks.map V.str)) hl2
      have d2 : upd G1 l2 (.lst (ks.map V.str)) l2 = _ := upd_same
      generalize upd G1 l2 (.lst (ks.map V.str)) = G2 at d1 d2 ⊢
      obtain ⟨m, rfl⟩ : ∃ m, n = m + 2 := ⟨n - 2, by omega⟩
      have alk : Alike (m + 2) G2 (.ref l1) (.ref l2) := by
        refine .inr (.inl ⟨l1, l2, _, _, rfl, rfl, d1 _ _ c2, d2, by rw [List.length_map]; exact few, ?_⟩)
        refine paired_of rfl fun i x y hx hy => ?_
        rw [hx] at hy
        obtain rfl := Option.some.inj hy
        obtain ⟨z, _, rfl⟩ := str_get hx
        exact .inl (.inl ⟨z, rfl, rfl⟩)
      refine ⟨.ref l1, .ref l2, rfl, .inl alk, fun H2 s2 => ?_⟩
      refine at_name (σ' := [some (.ref a), some (.ref b), some (.bl true), none, none, none]) rfl ?_
      refine ⟨_, rfl, _, rfl, iteT ?_⟩
      have s02 : L2.Same H H2 := fun c o e => s2 _ _ (d1 _ _ (c1 _ _ (s1 _ _ e)))
      have ha2 : H2 a = some (.dK kvs) := s02 _ _ ha
      have hb2 : H2 b = some (.dK kvs2) := s02 _ _ hb
      refine ⟨a, .dK kvs, ha2, trivial, fun od => ?_⟩
      refine ⟨_, rfl, a, od, rfl, .inl ⟨kvs, upd_same, fun D hD => ?_⟩⟩
      have nDa : D ≠ a := fun e => by rw [e, upd_same] at hD; cases hD
      refine lc_true walk_keys (by omega) hD (fun H' s => s _ _ upd_same) ?_ ?_
      · rintro j x H0 H1 R hj s3 ⟨rfl, kk, v, hk, rfl⟩ kR
        have hx : (kvs.map (·.1))[j]? = some kk := by rw [List.getElem?_map, hk]; rfl
        rw [ek, List.getElem?_map] at hx
        obtain ⟨s, ez⟩ : ∃ s, ks[j]? = some s := by
          cases e : ks[j]? with
          | none => rw [e] at hx; cases hx
          | some s => exact ⟨s, rfl⟩
        rw [ez] at hx
        obtain rfl : Sum.inr s = kk := Option.some.inj hx
        obtain ⟨x, y, vx, vy, ax⟩ := al s (List.mem_of_getElem? ez)
        have ga : DGet H1 a (.str s) (some x) := .inl ⟨kvs, Sum.inr s, .inr ⟨od, s3 _ _ upd_same⟩, rfl, vx.symm⟩
        have gb : DGet H1 b (.str s) (some y) := .inl ⟨kvs2, Sum.inr s, .inl (s3 _ _ ((upd_ne (Ne.symm nab)).trans hb2)), rfl, vy.symm⟩
        refine at_name (σ' := [some (.ref a), some (.ref b), some (.bl true), none, none, some (.str s)]) rfl ⟨rfl, ?_⟩
        exact ⟨_, rfl, _, rfl, a, _, rfl, ga, _, rfl, _, rfl, b, _, rfl, gb, x, y, rfl, ((ax od).mono (upd_sameS s02 _ _)).mono s3, kR⟩
      · intro H1 s3 hD1
        refine ⟨s3 _ _ upd_same, D, _, rfl, SqL.of ((upd_ne nDa).trans hD1), ?_⟩
        rw [all_true]
        refine k _ fun c o e => ?_
        by_cases hc : c = a
        · rw [hc] at e ⊢
          have := s02 _ _ e
          rw [ha2] at this
          rw [upd_same]; exact this
        · rw [upd_ne hc]
          exact s3 _ _ ((upd_ne hc).trans (s02 _ _ e))
theorem ok_exactD {f : Addr} {fd : FuncData} (F : Fun K "_law_exact" "_law_exact" sExact f fd) (B : Blt mg) (Z : Blp mg) (hz : mg "zip" = none) (me : mg "_law_exact" = some (.ref f)) (kp : PySem.W.keepIn K (.ref f) = true) (hb : Binds K fd ["_law_mine", "_law_theirs"] []) : ∀ n, FnOk P w K mg base CX0 (n + 1) f fd ["_law_mine", "_law_theirs"] (spExactD n)
  | 0 => by
    refine F.ok scExact (fun vs H Q E h => ?_) (fun cdv A outer s H vs Q E hr h => ?_)
    · obtain ⟨v, w2, rfl, _⟩ := h
      rfl
    · obtain ⟨v, w2, rfl, al, k⟩ := h
      exact al.elim
  | n + 1 => L2.FnOk.imp (FnOk.or (ok_exact F B Z hz me kp hb (n + 1)) (step_exactE F B Z hz ⟨f, fd, ok_exactD F B Z hz me kp hb n, me, kp, hb⟩)) fun vs H Q E ⟨v, w2, ev, al, k⟩ => by
    rcases al with h | h | h
    · exact .inl ⟨v, w2, ev, h, k⟩
    · exact .inr ⟨v, w2, ev, .inl h, k⟩
    · exact .inr ⟨v, w2, ev, .inr h, k⟩
end
end KT
set_option Elab.async false
set_option linter.all false
set_option maxRecDepth 100000
set_option maxHeartbeats 4000000
set_option pp.maxSteps 900
namespace KT
open PySem L2 PyProof.Rows DTp TxS DKq
section
variable {sts ds : List Str} {t : Str → Str → Str}
theorem GoAt.but {G : Addr} {H H' : Hp} {x dx m p : Addr} {bs : List Addr} (h : GoAt G H x dx m sts bs ds t) (b : But p H H') (n : ∀ (kvs : List (Key × V)), H p ≠ some (.dK kvs)) (n2 : ∀ c d fs, H p ≠ some (.ins c d fs)) : GoAt G H' x dx m sts bs ds t :=
  ⟨⟨b _ _ (fun e => n2 _ _ _ (by rw [← e]; exact h.st.ob)) h.st.ob, h.st.mv.but b n⟩, h.mv⟩
theorem PurseAt.noI {H : Hp} {p : Addr} {B : Int} (h : PurseAt H p B) : ∀ c d fs, H p ≠ some (.ins c d fs) := fun c d fs e => by
  obtain ⟨_, _, _, _, e2, _⟩ := h
  rw [e] at e2; cases e2
theorem GoE.purse {G : Addr} {H H' : Hp} {x p : Addr} {B : Int} (h : GoE G H x sts ds t) (hP : PurseAt H p B) (b : But p H H') : GoE G H' x sts ds t := let ⟨dx, m, bs, g⟩ := h; ⟨dx, m, bs, g.but b hP.noK hP.noI⟩
/-- moves read as alike -/
theorem alikeD_mv {H : Hp} {a b : Addr} {ss : List Str} {as bs : List Addr} {row : Str → List (Str × Str)} (n : Nat) (m1 : MvAt H a ss as row) (m2 : MvAt H b ss bs row) (nab : a ≠ b) (nds : ss.Nodup) (few : ss.length ≤ 100) (rok : ∀ s ∈ ss, (keysD (row s)).Nodup ∧ (row s).length ≤ 100) : AlikeD (n + 4) H (.ref a) (.ref b) := by
  refine .inr (.inr ⟨a, b, _, _, ss, by omega, rfl, rfl, nab, m1.at', m2.at', m1.keys, m2.keys, nds, few, fun s hs => ?_⟩)
  obtain ⟨c, vc, hc, mc⟩ := mvK_get m1.inns nds hs
  obtain ⟨d, vd, hd, md⟩ := mvK_get m2.inns nds hs
  have nca : c ≠ a := fun e => (List.nodup_cons.mp m1.nda).1 (e ▸ mc)
  have nda : d ≠ a := fun e => by
    rw [e, m1.at'] at hd
    injection hd with hd
    injection hd with hd
    obtain ⟨i, hi⟩ := List.mem_iff_getElem?.mp hs
    obtain ⟨c', hc'⟩ := m1.at_ hi
    have mem : ((Sum.inr s : Key), V.ref c') ∈ mvK ss as := List.mem_map.mpr ⟨(s, c'), List.mem_of_getElem? (List.getElem?_zip_eq_some.mpr ⟨hi, hc'⟩), rfl⟩
    rw [show mvK ss as = dkv (row s) from hd] at mem
    obtain ⟨q, _, hq⟩ := List.mem_map.mp mem
    cases hq
  obtain ⟨nr, lr⟩ := rok s hs
  refine ⟨.ref c, .ref d, vc, vd, fun od => .inl (.inr (.inr (.inr (.inr ⟨c, d, dkv (row s), keysD (row s), by omega, rfl, rfl, (upd_ne nca).trans hc, (upd_ne nda).trans hd, dkv_keys _, nr, fun p hp => ?_, by rw [keysD_len]; exact lr⟩))))⟩
  obtain ⟨q, _, rfl⟩ := List.mem_map.mp hp
  exact .inl ⟨_, rfl, rfl⟩
theorem MV.rok (m : MV sts ds t) : ∀ s ∈ sts, (keysD (rowT ds t s)).Nodup ∧ (rowT ds t s).length ≤ 100 := fun s _ => by
  rw [rowT_keys]
  refine ⟨m.dsc.nodup, ?_⟩
  have := m.dfew
  unfold rowT
  rw [List.length_map]
  omega
theorem MV.rowsW (m : MV sts ds t) : sts.length ≤ 100 := by have := m.few; omega
end
section
variable {K : PySem.W.Frag}
/-- [g(x) for x in texts], texts -/
theorem lcS_list {tl : TE} {g : TG} {te : TE} {vs : List Nat} {σ : L2.St} {H : Hp} {Q : VK} {xs : List Str} (f : Str → Str) (few : xs.length ≤ 1000)
    (hl : ∀ R : VK, (∀ l H1, L2.Same H H1 → H1 l = some (.lst (xs.map V.str)) → R (.ref l) H1) → tl σ H R)
    (step : ∀ x H2 (Y : VK), x ∈ xs → L2.Same H H2 → (∀ H3, L2.Same H2 H3 → Y (.str (f x)) H3) → g (.str x) (wipe σ vs) H2 fun σ2 H3 => wipe σ2 vs = wipe σ vs ∧ te σ2 H3 Y)
    (k : ∀ q H', L2.Same H H' → H q = none → H' q = some (.lst ((xs.map f).map V.str)) → Q (.ref q) H') :
    tLc (iList K tl) g tYes te vs σ H Q := by
  refine hl _ fun l H1 s1 h1 => ?_
  refine ⟨l, rfl, ⟨_, SqL.of h1⟩, fun D hD => ?_⟩
  refine lc_it (walk_list (K := K) (a := l) (xs := xs.map V.str)) (fun i H' => L2.Same H1 H' ∧ H' D = some (.lst (((xs.take i).map f).map V.str))) ?_ ?_ ?_ ?_
  · exact ⟨Same.new hD, upd_same⟩
  · rintro i H' _ ⟨s2, _⟩
    exact SqL.of (s2 _ _ h1)
  · rintro i v H2' H2 hi ⟨s2, hD2⟩ ⟨rfl, hx⟩
    obtain ⟨x, ex, rfl⟩ := str_get hx
    have mx := List.mem_of_getElem? ex
    have lF : ((xs.take i).map f).length ≤ 1000 := by rw [List.length_map, List.length_take]; omega
    refine step x H2 _ mx (s1.trans s2) fun H5 s5 => ?_
    refine ⟨_, s5 _ _ hD2, by rw [List.length_map]; exact small1000 lF, fun b o eo => ?_, ?_⟩
    · rw [upd_ne (ne_of_none eo hD)]
      exact s5 _ _ (s2 _ _ eo)
    · rw [upd_same, take_next' ex, List.map_append, List.map_append]
      rfl
  · rintro H2 ⟨s2, hD2⟩
    rw [List.length_map, List.take_length] at hD2
    exact k D H2 (s1.trans s2) (s1.free hD) hD2
end
end KT
set_option Elab.async false
set_option linter.all false
set_option maxRecDepth 100000
set_option maxHeartbeats 4000000
set_option pp.maxSteps 900
namespace KT
open PySem L2 PyProof.Rows DTp TxS DKq
section
variable {P : Program} {w : World} {K : PySem.W.Frag} {mg : Str → Option Value} {base : Heap} {G : Addr}
structure RtC (P : Program) (w : World) (K : PySem.W.Frag) (mg : Str → Option Value) (base : Heap) (G : Addr) : Prop where
  draw : DrawC P w K mg base
  log : Cee P w K mg base 4 "_law_log" ["_law_purse_here", "_law_setting_here", "_law_many"] spLog
  exD : Cee P w K mg base 9 "_law_exact" ["_law_mine", "_law_theirs"] (spExactD 8)
  mov : Mee P w K mg base G 1 "moves" ["self"] (spGMovesT G)
  sta : Mee P w K mg base G 1 "states" ["self"] (spGStates G)
  ded : Mee P w K mg base G 2 "deeds" ["self"] (spGDeeds G)
  ord : Cee P w K mg base 1 "_law_ordered_moves" ["_law_moves"] spOrd
  bhL : Cee P w K mg base 1 "_law_behind" ["_law_moves", "_law_state", "_law_log_here"] spLedT
  bh : Cee P w K mg base 4 "behind" ["store", "state", "log"] (spBehindS G)
  bal : Cee P w K mg base 4 "behind_all" ["store", "log"] (spBehindAll G)
def spRight (G : Addr) : Sp := fun vs H Q _ => ∃ (p s a x td da tl : Addr) (B : Int) (ws : List Str) (f : Str → Str → Str) (dl : List (Str × Str)) (tw : List Str) (sts : List Str) (t : Str → Str → Str), vs = [.ref p, .ref s, .ref a, .ref x] ∧ PurseAt H p B ∧ 0 ≤ B ∧ B ≤ 900000 ∧ SetAt H s td da tl ws f dl tw ∧
  MvT H a sts (keysD dl) t ∧ MV sts (keysD dl) t ∧ GoE G H x sts (keysD dl) t ∧ ∀ H', But p H H' → PurseAt H' p (B + 3000) → Q (.bl true) H'
abbrev nRight : List Str := ["_law_purse_here", "_law_setting_here", "_law_moves", "_law_store_here", "_law_states", "_law_deeds", "_law_turn", "_law_log_here", "_law_handed", "_law_due", "_law_told", "_law_state"]
theorem scRight : FnScope nRight ["_law_purse_here", "_law_setting_here", "_law_moves", "_law_store_here"] (defScope sRight) := ⟨rfl, rfl, rfl, by decide +kernel, rfl, by decide +kernel, by decide +kernel⟩
theorem ok_right {g : Addr} {fd : FuncData} (F : Fun K "_law_right" "_law_right" sRight g fd) (B0 : Blt mg) (Z : Blp mg) (T : GTx K mg G) (M : RtC P w K mg base G) : FnOk P w K mg base CX0 10 g fd ["_law_purse_here", "_law_setting_here", "_law_moves", "_law_store_here"] (spRight G) := by
  refine F.ok scRight (fun vs H Q E h => ?_) (fun cdv A outer s H vs Q E hr h => ?_)
  · obtain ⟨p, s, a, x, td, da, tl, B, ws, f, dl, tw, sts, t, rfl, _⟩ := h
    rfl
  · obtain ⟨p, s0, a, x, td, da, tl, B, ws, f, dl, tw, sts, t, rfl, hP, b0, b9, se, mt, mv, gx, k⟩ := h
    have nd := scRight.nd
    refine ⟨_, pss_cons (ps_asg (pe_tup (pa_cons (pe_callB (cr_sortD rfl) (by rfl) Z.sorted (by decide +kernel) (pa_cons (pv 2) (pa_nil))) (pa_cons (pe_callB (cr_sortD rfl) (by rfl) Z.sorted (by decide +kernel) (pa_cons (pe_ix ix_list (pv 1) pe_int (fun _ _ => rfl)) (pa_nil))) (pa_nil)))) (pg_tup rfl (pgs_cons (pg_name (i := 4) nd rfl (Or.inl rfl)) (pgs_cons (pg_name (i := 5) nd rfl (Or.inr rfl)) pgs_nil))))
      (pss_cons (ps_if (pt_not (pt_val (pe_c M.exD hr rfl (pa_cons (pe_lst (pa_cons (pe_m0 M.mov T.cl hr (pv 3)) (pa_cons (pe_m0 M.sta T.cl hr (pv 3)) (pa_cons (pe_m0 M.ded T.cl hr (pv 3)) (pa_nil))))) (pa_cons (pe_lst (pa_cons (pe_c M.ord hr rfl (pa_cons (pv 2) (pa_nil))) (pa_cons (pv 4) (pa_cons (pv 5) (pa_nil))))) (pa_nil)))))) (pss_one (ps_ret (pe_bl))) pss_nil)
      (pss_cons (ps_for PassesOwn.never rfl (pi_range1 rfl B0.range (pa_cons (pe_int) (pa_nil))) (pg_name (i := 6) nd rfl (Or.inl rfl)) (pss_cons (ps_cut (ps_set (i := 7) nd rfl (Or.inr rfl) (pe_ifExp (pt_cmpR op_gt (pv 6) pe_int (nomark _)) (pe_c M.log hr rfl (pa_cons (pv 0) (pa_cons (pv 1) (pa_cons (pe_c M.draw hr rfl (pa_cons (pv 0) (pa_cons (pe_int) (pa_nil)))) (pa_nil))))) (pe_lst (pa_nil)))))
      (pss_cons (ps_asg (pe_tup (pa_cons (pe_callTy call_list_of (by rfl) Z.list (by decide +kernel) (pa_cons (pv 7) (pa_nil))) (pa_cons (pe_callTy (cr_dictP rfl) (by rfl) Z.dict (by decide +kernel) (pa_cons (pe_lc (own := [("_law_state", 11)]) (g := gName 11) (tt := tYes) (te := tTup (tCons (tVar 11) (tCons (tCall spLedT [] E0 (tCons (tVar 2) (tCons (tVar 11) (tCons (tVar 7) (tNil))))) (tNil)))) rfl nd (pi_list (pv 4)) (blkOk_by (own := [("_law_state", 11)]) (N := nRight) (sc := defScope sRight) (by decide +kernel)) (fun _ _ _ _ _ => pg_name (i := 11) nd rfl (Or.inl rfl)) (fun _ _ _ _ _ => pts_nil) (fun _ _ _ _ _ => pe_tup (pa_cons (pv 11) (pa_cons (pe_c M.bhL hr rfl (pa_cons (pv 2) (pa_cons (pv 11) (pa_cons (pv 7) (pa_nil))))) (pa_nil))))) (pa_nil))) (pa_nil)))) (pg_tup rfl (pgs_cons (pg_name (i := 8) nd rfl (Or.inr rfl)) (pgs_cons (pg_name (i := 9) nd rfl (Or.inl rfl)) pgs_nil))))
      (pss_cons (ps_set (i := 10) nd rfl (Or.inl rfl) (pe_c M.bal hr rfl (pa_cons (pv 3) (pa_cons (pv 8) (pa_nil)))))
      (pss_cons (ps_if (pt_cut <| PW.pt (pw_or (pt_not (pt_val (pe_c M.exD hr rfl (pa_cons (pe_lst (pa_cons (pv 10) (pa_cons (pv 8) (pa_nil)))) (pa_cons (pe_lst (pa_cons (pv 9) (pa_cons (pv 7) (pa_nil)))) (pa_nil)))))) (pw_or1 (pt_not (pt_val (pe_c M.exD hr rfl (pa_cons (pe_lc (own := [("_law_state", 11)]) (g := gName 11) (tt := tYes) (te := tCall (spBehindS G) [] E0 (tCons (tVar 3) (tCons (tVar 11) (tCons (tVar 8) (tNil))))) rfl nd (pi_list (pv 4)) (blkOk_by (own := [("_law_state", 11)]) (N := nRight) (sc := defScope sRight) (by decide +kernel)) (fun _ _ _ _ _ => pg_name (i := 11) nd rfl (Or.inl rfl)) (fun _ _ _ _ _ => pts_nil) (fun _ _ _ _ _ => pe_c M.bh hr rfl (pa_cons (pv 3) (pa_cons (pv 11) (pa_cons (pv 8) (pa_nil)))))) (pa_cons (pe_listVals rfl (pv 9) (by rfl) Z.list) (pa_nil))))))))) (pss_one (ps_ret (pe_bl))) pss_nil)
      (pss_cons (ps_expr (pe_dclear (pv 10)))
      (pss_cons (ps_expr (pe_bm PySem.F.plainAttrs_list PySem.F.slot_list_append PySem.F.type_list_append mt_append (pv 8) (pa_cons (pe_ix ix_list (pv 5) pe_int (fun _ _ => rfl)) (pa_nil))))
      (pss_one (ps_if (pt_not (pt_val (pe_c M.exD hr rfl (pa_cons (pe_c M.bal hr rfl (pa_cons (pv 3) (pa_cons (pv 8) (pa_nil)))) (pa_cons (pe_callTy (cr_dictP rfl) (by rfl) Z.dict (by decide +kernel) (pa_cons (pe_lc (own := [("_law_state", 11)]) (g := gName 11) (tt := tYes) (te := tTup (tCons (tVar 11) (tCons (tCall spLedT [] E0 (tCons (tVar 2) (tCons (tVar 11) (tCons (tOp rCat (tVar 7) (tSl (rSlL K) (tVar 5) tNoPart (tPart (tC (.int 1))))) (tNil))))) (tNil)))) rfl nd (pi_list (pv 4)) (blkOk_by (own := [("_law_state", 11)]) (N := nRight) (sc := defScope sRight) (by decide +kernel)) (fun _ _ _ _ _ => pg_name (i := 11) nd rfl (Or.inl rfl)) (fun _ _ _ _ _ => pts_nil) (fun _ _ _ _ _ => pe_tup (pa_cons (pv 11) (pa_cons (pe_c M.bhL hr rfl (pa_cons (pv 2) (pa_cons (pv 11) (pa_cons (pe_op op_cat (pv 7) (pe_slice sl_list (pv 5) po_none (po_some pe_int))) (pa_nil))))) (pa_nil))))) (pa_nil))) (pa_nil)))))) (pss_one (ps_ret (pe_bl))) pss_nil)))))))))
      (pss_cons (ps_set (i := 10) nd rfl (Or.inl rfl) (pe_m0 M.mov T.cl hr (pv 3)))
      (pss_cons (ps_expr (pe_dclear (pe_dget (hu_of hr) (pv 10) (pe_ix ix_list (pv 4) pe_int (fun _ _ => rfl)) (fun _ _ => rfl))))
      (pss_cons (ps_expr (pe_bm PySem.F.plainAttrs_list PySem.F.slot_list_append PySem.F.type_list_append mt_append (pe_m0 M.sta T.cl hr (pv 3)) (pa_cons (pe_non) (pa_nil))))
      (pss_cons (ps_expr (pe_bm PySem.F.plainAttrs_list PySem.F.slot_list_append PySem.F.type_list_append mt_append (pe_m0 M.ded T.cl hr (pv 3)) (pa_cons (pe_non) (pa_nil))))
      (pss_one (ps_ret (pe_c M.exD hr rfl (pa_cons (pe_lst (pa_cons (pe_m0 M.mov T.cl hr (pv 3)) (pa_cons (pe_m0 M.sta T.cl hr (pv 3)) (pa_cons (pe_m0 M.ded T.cl hr (pv 3)) (pa_nil))))) (pa_cons (pe_lst (pa_cons (pe_c M.ord hr rfl (pa_cons (pv 2) (pa_nil))) (pa_cons (pv 4) (pa_cons (pv 5) (pa_nil))))) (pa_nil)))))))))))), ?_⟩
    have dfew := mv.dfew
    have ldl : (keysD dl).length ≤ 8 := by rw [keysD_len]; exact se.ok.few
    have dpos : 0 < (keysD dl).length := List.length_pos_iff.mpr mv.dne
    have few := mv.few
    obtain ⟨ss0, as0, row0, m0, pm0, kt0⟩ := id mt
    refine ⟨_, rfl, a, _, ss0, rfl, .inl m0.at', m0.keys, by rw [pm0.length_eq]; exact few, fun ys sq pq so hsq0 => ?_⟩
    have ey : sts = ys := ((sortedS_asc so (pq.nodup_iff.mpr (pm0.nodup_iff.mpr mv.asc.nodup))).eq mv.asc (pq.trans pm0)).symm
    subst ey
    have s1 := Same.new (H := H) (o := .lst (sts.map V.str)) hsq0
    have hsq : upd H sq (.lst (sts.map V.str)) sq = _ := upd_same
    generalize upd H sq (.lst (sts.map V.str)) = H1 at s1 hsq ⊢
    refine ⟨_, rfl, s0, _, 1, _, rfl, rfl, SqL.of (s1 _ _ se.hs), atI_nat (j := 1) rfl, da, _, _, rfl, .inl (s1 _ _ se.hd), dkv_keys _, by omega, fun ys dq pq2 so2 hdq0 => ?_⟩
    have ey : keysD dl = ys := ((sortedS_asc so2 (pq2.nodup_iff.mpr se.ok.nd)).eq se.asc pq2).symm
    subst ey
    have s2 := Same.new (H := H1) (o := .lst ((keysD dl).map V.str)) hdq0
    have hdq : upd H1 dq (.lst ((keysD dl).map V.str)) dq = _ := upd_same
    generalize upd H1 dq (.lst ((keysD dl).map V.str)) = H2 at s2 hdq ⊢
    refine ⟨(by show 2 ≤ sizeLine; decide), fun tt htt => ?_⟩
    have s3 := Same.new (H := H2) (o := .tup [.ref sq, .ref dq]) htt
    have a2 : upd H2 tt (.tup [.ref sq, .ref dq]) tt = _ := upd_same
    generalize upd H2 tt (.tup [.ref sq, .ref dq]) = H3 at s3 a2 ⊢
    refine ⟨tt, _, rfl, SqT.of a2, rfl, _, _, rfl, ?_⟩
    refine at_name (σ' := [some (.ref p), some (.ref s0), some (.ref a), some (.ref x), some (.ref sq), none, none, none, none, none, none, none]) rfl ?_
    refine ⟨_, _, rfl, ?_⟩
    refine at_name (σ' := [some (.ref p), some (.ref s0), some (.ref a), some (.ref x), some (.ref sq), some (.ref dq), none, none, none, none, none, none]) rfl ⟨rfl, ?_⟩
    have s03 : L2.Same H H3 := s1.trans (s2.trans s3)
    have gx3 := gx.mono s03
    have mt3 := mt.mono s03
    have hsq3 : H3 sq = _ := s3 _ _ (s2 _ _ hsq)
    have hdq3 : H3 dq = _ := s3 _ _ hdq
    have hP3 := hP.mono s03
    have se3 := se.mono s03
    clear s1 s2 s3 hsq hdq htt a2 hsq0 hdq0
    -- as told
    obtain ⟨dxTa, mTa, bTa, gTa⟩ := id gx3
    refine ⟨_, rfl, x, dxTa, _, rfl, gTa.st.ob, gflds_no _ (by decide +kernel), x, sts, _, t, rfl, gx3, fun q1a bs1a T1a u1 hq10 _ mq1 => ?_⟩
    refine ⟨_, rfl, x, dxTa, _, rfl, u1 _ _ gTa.st.ob, gflds_no _ (by decide +kernel), x, sts, _, t, rfl, gx3.mono u1, fun q2a T2a u2 hq20 hq2 => ?_⟩
    refine ⟨_, rfl, x, dxTa, _, rfl, u2 _ _ (u1 _ _ gTa.st.ob), gflds_no _ (by decide +kernel), x, sts, _, t, rfl, (gx3.mono u1).mono u2, fun q3a T3a u3 hq30 hq3 => ?_⟩
    refine ⟨(by show 3 ≤ sizeLine; decide), fun l1a hl10 => ?_⟩
    have u4 := Same.new (H := T3a) (o := .lst [.ref q1a, .ref q2a, .ref q3a]) hl10
    have hl1 : upd T3a l1a (.lst [.ref q1a, .ref q2a, .ref q3a]) l1a = _ := upd_same
    generalize upd T3a l1a (.lst [.ref q1a, .ref q2a, .ref q3a]) = T4a at u4 hl1 ⊢
    have u04 : L2.Same H3 T4a := u1.trans (u2.trans (u3.trans u4))
    refine ⟨_, rfl, a, sts, _, t, rfl, mt3.mono u04, mv, fun o1a bs2a T5a u5 ho10 _ mo1 => ?_⟩
    refine ⟨_, rfl, _, rfl, (by show 3 ≤ sizeLine; decide), fun l2a hl20 => ?_⟩
    have u6 := Same.new (H := T5a) (o := .lst [.ref o1a, .ref sq, .ref dq]) hl20
    have hl2 : upd T5a l2a (.lst [.ref o1a, .ref sq, .ref dq]) l2a = _ := upd_same
    generalize upd T5a l2a (.lst [.ref o1a, .ref sq, .ref dq]) = T6a at u6 hl2 ⊢
    have nqoa : q1a ≠ o1a := fun e => by
      have := u4 _ _ (u3 _ _ (u2 _ _ mq1.at'))
      rw [e, ho10] at this; cases this
    have u16 : L2.Same T1a T6a := u2.trans (u3.trans (u4.trans (u5.trans u6)))
    have u06 : L2.Same H3 T6a := u1.trans u16
    have alka : AlikeD 8 T6a (.ref l1a) (.ref l2a) := .inr (.inl ⟨l1a, l2a, _, _, rfl, rfl, u6 _ _ (u5 _ _ hl1), hl2, by show 3 ≤ 100; decide, .cons (alikeD_mv 3 (mq1.mono u16) (mo1.mono u6) nqoa mv.asc.nodup mv.rowsW mv.rok) (.cons (.inl (alike_strs 5 (u6 _ _ (u5 _ _ (u4 _ _ (u3 _ _ hq2)))) (u06 _ _ hsq3) mv.rowsW)) (.cons (.inl (alike_strs 5 (u6 _ _ (u5 _ _ (u4 _ _ hq3))) (u06 _ _ hdq3) (by omega))) .nil))⟩)
    refine ⟨.ref l1a, .ref l2a, rfl, alka, fun T7a u7 => ?_⟩
    have u07a : L2.Same H3 T7a := u06.trans u7
    clear u1 u2 u3 u4 u04 u5 u6 u16 u06 u7 hq10 hq20 hq30 hl10 ho10 hl20

    refine ⟨_, rfl, iteF ?_⟩
    have s07 : L2.Same H T7a := s03.trans u07a
    have hsq7 := u07a _ _ hsq3
    have hdq7 := u07a _ _ hdq3
    have hP7 := hP3.mono u07a
    clear u07a
    -- three logs
    obtain ⟨d0, ed0⟩ : ∃ d0, (keysD dl)[0]? = some d0 := ⟨_, List.getElem?_eq_getElem dpos⟩
    have md0 := List.mem_of_getElem? ed0
    have tk0 : ((keysD dl).map V.str).take 1 = [V.str d0] := by
      cases e : keysD dl with
      | nil => rw [e] at dpos; cases dpos
      | cons o L => rw [e] at ed0; cases ed0; rfl
    have nsqp : p ≠ sq := hP7.strs hsq7
    have ndqp : p ≠ dq := hP7.strs hdq7
    refine ⟨_, rfl, by decide, by decide, ?_⟩
    refine for_range (lo := 0) (n := 3) (fun i σ H' => ∃ (x6 x7 x8 x9 x10 : Option V), σ = [some (.ref p), some (.ref s0), some (.ref a), some (.ref x), some (.ref sq), some (.ref dq), x6, x7, x8, x9, x10, none] ∧ But p H H' ∧ PurseAt H' p (B + 900 * (i : Nat)) ∧ H' sq = some (.lst (sts.map V.str)) ∧ H' dq = some (.lst ((keysD dl).map V.str))) ?_ ?_ ?_
    · exact ⟨_, _, _, _, _, rfl, Same.asBut s07, hP7.le (by omega), hsq7, hdq7⟩
    · rintro i σ H8 hi ⟨x6, x7, x8, x9, x10, rfl, bt8, hP8, hsq8, hdq8⟩
      refine at_name (σ' := [some (.ref p), some (.ref s0), some (.ref a), some (.ref x), some (.ref sq), some (.ref dq), some (.int ((0 : Int) + (i : Nat))), x7, x8, x9, x10, none]) rfl ?_
      refine ⟨fun σ' H' => ∃ (lg : Addr) (L : List Str), σ' = [some (.ref p), some (.ref s0), some (.ref a), some (.ref x), some (.ref sq), some (.ref dq), some (.int ((0 : Int) + (i : Nat))), some (.ref lg), x8, x9, x10, none] ∧ But p H H' ∧ PurseAt H' p (B + 900 * ((i + 1 : Nat) : Int)) ∧ H' sq = some (.lst (sts.map V.str)) ∧ H' dq = some (.lst ((keysD dl).map V.str)) ∧ H' lg = some (.lst (L.map V.str)) ∧ p ≠ lg ∧ L.length ≤ 9 ∧ ∀ o ∈ L, o ∈ keysD dl, ?_, ?_⟩
      · refine ⟨_, rfl, _, _, rfl, rfl, _, rfl, ite2 (fun _ => ?_) (fun _ => ?_)⟩
        · refine ⟨_, rfl, _, rfl, _, rfl, p, 10, _, rfl, hP8, by omega, by omega, by decide, by decide, fun r H9 bt9 hP9 r0 r1 => ?_⟩
          obtain ⟨n, rfl⟩ := nat_of (m := 0) r0
          have se9 := se.purse hP (bt8.trans bt9)
          refine ⟨p, s0, td, da, tl, _, ws, f, dl, tw, n, rfl, hP9, by omega, by omega, se9, by omega, fun q row H10 bt10 hP10 hq0 la lrow => ?_⟩
          exact ⟨q, row, rfl, ((bt8.trans bt9).trans bt10), hP10.le (by omega), bt10 _ _ nsqp.symm (bt9 _ _ nsqp.symm hsq8), bt10 _ _ ndqp.symm (bt9 _ _ ndqp.symm hdq8), la.at', hP10.strs la.at', by omega, la.mem⟩
        · refine ⟨(by show 0 ≤ sizeLine; decide), fun q hq0 => ?_⟩
          have sN := Same.new (H := H8) (o := .lst []) hq0
          exact ⟨q, [], rfl, bt8.same sN, (hP8.mono sN).le (by omega), sN _ _ hsq8, sN _ _ hdq8, upd_same, hP8.ne hq0, by decide, fun o ho => by cases ho⟩
      rintro σ' H9 ⟨lg, L, rfl, bt9, hP9, hsq9, hdq9, hlg, nplg, lL, hL⟩
      have mt9 := mt.purse hP bt9
      have gx9 := gx.purse hP bt9
      refine ⟨_, rfl, lg, _, rfl, .inl (SqL.of hlg), fun hd hhd0 => ?_⟩
      have v1 := Same.new (H := H9) (o := .lst (L.map V.str)) hhd0
      have hhd : upd H9 hd (.lst (L.map V.str)) hd = _ := upd_same
      generalize upd H9 hd (.lst (L.map V.str)) = H10 at v1 hhd ⊢
      have mt10 := mt9.mono v1
      have hsq10 := v1 _ _ hsq9
      have hlg10 := v1 _ _ hlg
      obtain ⟨ssDa, asDa, rwDa, mDa, pDa, kDa⟩ := id mt10
      show tCB (rDP K) (tCons (tLc (iList K (tVar 4)) (gName 11) tYes _ [11]) tNil) _ _ _
      refine rdS_list (K := K) (xs := sts) (key := fun o => o) (val := fun z => .str (List.foldl t z L)) (fun _ H' => L2.Same H10 H') (by omega) ?_ ?_ ?_
      · intro R hR
        exact ⟨_, rfl, hR sq H10 hsq10 (fun _ _ e => e)⟩
      · intro l z J1 J2 R hz j1 j2 kR
        have j02 : L2.Same H10 J2 := L2.Same.trans j1 j2
        refine at_name (σ' := [some (.ref p), some (.ref s0), some (.ref a), some (.ref x), some (.ref sq), some (.ref dq), some (.int ((0 : Int) + (i : Nat))), some (.ref lg), x8, x9, x10, some (.str z)]) rfl ⟨rfl, ?_⟩
        have mJ := mDa.mono j02
        refine ⟨_, rfl, _, rfl, _, rfl, _, rfl, a, ssDa, asDa, rwDa, sts, _, t, z, lg, L, rfl, .inl mJ.at', mJ.inns, pDa, kDa, mv, hz, j02 _ _ hlg10, hL, (by show 2 ≤ sizeLine; decide), fun tq htq0 => kR tq _ (Same.new htq0) upd_same⟩
      · intro dda l J1 J2a j1 j2 hdd0 hdd
        rw [mergeK_strs mv.asc.nodup] at hdd
        have j02 : L2.Same H10 J2a := L2.Same.trans j1 j2
        have hdda : J2a dda = some (.dK (dkv (sts.map fun s => (s, List.foldl t s L)))) := by rw [hdd]; unfold dkv; rw [List.map_map]; rfl
        have v2 : L2.Same H10 J2a := j02
        clear j1 j2 hdd hdd0
        refine ⟨(by show 2 ≤ sizeLine; decide), fun tp htp => ?_⟩
        have v3 := Same.new (H := J2a) (o := .tup [.ref hd, .ref dda]) htp
        have atp : upd J2a tp (.tup [.ref hd, .ref dda]) tp = _ := upd_same
        generalize upd J2a tp (.tup [.ref hd, .ref dda]) = H11 at v3 atp ⊢
        refine ⟨tp, _, rfl, SqT.of atp, rfl, _, _, rfl, ?_⟩
        refine at_name (σ' := [some (.ref p), some (.ref s0), some (.ref a), some (.ref x), some (.ref sq), some (.ref dq), some (.int ((0 : Int) + (i : Nat))), some (.ref lg), some (.ref hd), x9, x10, none]) rfl ?_
        refine ⟨_, _, rfl, ?_⟩
        refine at_name (σ' := [some (.ref p), some (.ref s0), some (.ref a), some (.ref x), some (.ref sq), some (.ref dq), some (.int ((0 : Int) + (i : Nat))), some (.ref lg), some (.ref hd), some (.ref dda), x10, none]) rfl ⟨rfl, ?_⟩
        have v0 : L2.Same H9 H11 := v1.trans (v2.trans v3)
        have gx11 := gx9.mono v0
        have hhd11 := v3 _ _ (v2 _ _ hhd)
        have hdd11 := v3 _ _ hdda
        have hlg11 := v0 _ _ hlg
        have hsq11 := v0 _ _ hsq9
        have hdq11 := v0 _ _ hdq9
        have nkD : ∀ {g : Str → Str}, (keysD (sts.map fun s => (s, g s))).Nodup := fun {g} => by
          have : keysD (sts.map fun s => (s, g s)) = sts := by
            unfold keysD
            rw [List.map_map]; exact List.map_id _
          rw [this]; exact mv.asc.nodup
        refine ⟨_, rfl, _, rfl, x, hd, sts, _, t, L, rfl, gx11, hhd11, by omega, hL, fun tq H12 v4 htq0 htq => ?_⟩
        refine at_name (σ' := [some (.ref p), some (.ref s0), some (.ref a), some (.ref x), some (.ref sq), some (.ref dq), some (.int ((0 : Int) + (i : Nat))), some (.ref lg), some (.ref hd), some (.ref dda), some (.ref tq), none]) rfl ?_
        refine ⟨fun b H' => b = false ∧ L2.Same H12 H', ?_, ?_⟩
        · refine ⟨_, rfl, _, rfl, (by show 2 ≤ sizeLine; decide), fun l1 hl10 => ?_⟩
          have w1 := Same.new (H := H12) (o := .lst [.ref tq, .ref hd]) hl10
          have hl1 : upd H12 l1 (.lst [.ref tq, .ref hd]) l1 = _ := upd_same
          generalize upd H12 l1 (.lst [.ref tq, .ref hd]) = H13 at w1 hl1 ⊢
          refine ⟨_, rfl, _, rfl, (by show 2 ≤ sizeLine; decide), fun l2 hl20 => ?_⟩
          have w2 := Same.new (H := H13) (o := .lst [.ref dda, .ref lg]) hl20
          have hl2 : upd H13 l2 (.lst [.ref dda, .ref lg]) l2 = _ := upd_same
          generalize upd H13 l2 (.lst [.ref dda, .ref lg]) = H14 at w2 hl2 ⊢
          have w02 := w1.trans w2
          have alk : AlikeD 8 H14 (.ref l1) (.ref l2) := .inr (.inl ⟨l1, l2, _, _, rfl, rfl, w2 _ _ hl1, hl2, by show 2 ≤ 100; decide, .cons (.inl (alike_dkv 4 (w02 _ _ htq) (w02 _ _ (v4 _ _ hdd11)) nkD (by rw [List.length_map]; omega))) (.cons (.inl (alike_strs 5 (w02 _ _ (v4 _ _ hhd11)) (w02 _ _ (v4 _ _ hlg11)) (by omega))) .nil)⟩)
          refine ⟨.ref l1, .ref l2, rfl, alk, fun H15 w3 => ?_⟩
          refine ⟨_, rfl, iteF ?_⟩
          have w15 : L2.Same H12 H15 := w02.trans w3
          have w115 : L2.Same H11 H15 := v4.trans w15
          dsimp only [tNot, tB, tCall, tCons]
          refine lcS_list (K := K) (xs := sts) (fun z => L.foldl t z) (by omega) ?_ ?_ ?_
          · intro R hR
            exact ⟨_, rfl, hR sq H15 (fun _ _ e => e) (w115 _ _ hsq11)⟩
          · intro z J3 Y hz j3 kY
            refine at_name (σ' := [some (.ref p), some (.ref s0), some (.ref a), some (.ref x), some (.ref sq), some (.ref dq), some (.int ((0 : Int) + (i : Nat))), some (.ref lg), some (.ref hd), some (.ref dda), some (.ref tq), some (.str z)]) rfl ⟨rfl, ?_⟩
            exact ⟨_, rfl, _, rfl, _, rfl, x, hd, z, sts, _, t, L, rfl, (gx11.mono w115).mono j3, hz, j3 _ _ (w115 _ _ hhd11), by omega, hL, fun J4 j4 => kY J4 j4⟩
          · intro lq J3 j3 hlq0 hlq
            refine ⟨_, rfl, dda, _, rfl, j3 _ _ (w115 _ _ hdd11), fun lv hlv0 => ?_⟩
            have ev : (dkv (sts.map fun s => (s, L.foldl t s))).map (·.2) = (sts.map fun z => L.foldl t z).map V.str := by
              unfold dkv
              rw [List.map_map, List.map_map, List.map_map]; rfl
            rw [ev]
            have w4 := Same.new (H := J3) (o := .lst ((sts.map fun z => L.foldl t z).map V.str)) hlv0
            exact ⟨.ref lq, .ref lv, rfl, .inl (alike_strs 6 (w4 _ _ hlq) upd_same (by rw [List.length_map]; omega)), fun H16 w5 => ⟨_, rfl, rfl, w15.trans (j3.trans (w4.trans w5))⟩⟩
        rintro b H13 ⟨rfl, w1⟩
        refine iteF ?_
        refine ⟨_, rfl, .inr (.inr (.inl ⟨rfl, .inl ⟨_, w1 _ _ htq⟩⟩)), tq, _, rfl, rfl, w1 _ _ htq, ?_⟩
        have y4 : L2.Same H11 (upd H13 tq (.dK [])) := fun c o e => (upd_ne (ne_of_none e htq0)).trans (w1 _ _ (v4 _ _ e))
        generalize upd H13 tq (.dK []) = H14 at y4 ⊢
        clear w1 htq htq0 v4
        have hhd14 := y4 _ _ hhd11
        refine ⟨_, rfl, .inl ⟨rfl, _, SqL.of hhd14⟩, _, rfl, dq, _, 0, _, rfl, rfl, SqL.of (y4 _ _ hdq11), atI_nat (j := 0) (by rw [List.getElem?_map, ed0]; rfl), hd, _, _, rfl, rfl, hhd14, by rw [List.length_map]; exact small1000 (by omega), ?_⟩
        have y5 : L2.Same H9 (upd H14 hd (.lst (L.map V.str ++ [.str d0]))) := fun c o e => (upd_ne (ne_of_none e hhd0)).trans (y4 _ _ (v0 _ _ e))
        have hhd15 : upd H14 hd (.lst (L.map V.str ++ [.str d0])) hd = some (.lst ((L ++ [d0]).map V.str)) := by
          rw [upd_same, List.map_append]; rfl
        generalize upd H14 hd (.lst (L.map V.str ++ [.str d0])) = H15 at y5 hhd15 ⊢
        have hL2 : ∀ o ∈ L ++ [d0], o ∈ keysD dl := fun o ho => (List.mem_append.mp ho).elim (hL o) fun h => by rw [List.mem_singleton.mp h]; exact md0
        refine ⟨_, rfl, _, rfl, x, hd, sts, _, t, L ++ [d0], rfl, gx9.mono y5, hhd15, by rw [List.length_append, List.length_singleton]; omega, hL2, fun tr H16 v5 htr0 htr => ?_⟩
        have y6 : L2.Same H9 H16 := y5.trans v5
        have mt16 := mt9.mono y6
        have hsq16 := y6 _ _ hsq9
        have hlg16 := y6 _ _ hlg
        have hdq16 := y6 _ _ hdq9
        obtain ⟨ssDb, asDb, rwDb, mDb, pDb, kDb⟩ := id mt16
        show tCB (rDP K) (tCons (tLc (iList K (tVar 4)) (gName 11) tYes _ [11]) tNil) _ _ _
        refine rdS_list (K := K) (xs := sts) (key := fun o => o) (val := fun z => .str (List.foldl t z (L ++ [d0]))) (fun _ H' => L2.Same H16 H') (by omega) ?_ ?_ ?_
        · intro R hR
          exact ⟨_, rfl, hR sq H16 hsq16 (fun _ _ e => e)⟩
        · intro l z J1 J2 R hz j1 j2 kR
          have j02 : L2.Same H16 J2 := L2.Same.trans j1 j2
          refine at_name (σ' := [some (.ref p), some (.ref s0), some (.ref a), some (.ref x), some (.ref sq), some (.ref dq), some (.int ((0 : Int) + (i : Nat))), some (.ref lg), some (.ref hd), some (.ref dda), some (.ref tq), some (.str z)]) rfl ⟨rfl, ?_⟩
          have mJ := mDb.mono j02
          refine ⟨_, rfl, _, rfl, _, rfl, _, rfl, _, rfl, _, rfl, dq, _, rfl, SqL.of (j02 _ _ hdq16), fun p1 hp10 => ?_⟩
          rw [show (1 : Int) = ((1 : Nat) : Int) from rfl, cut_to' _ 1, tk0]
          have z1 := Same.new (H := J2) (o := .lst [V.str d0]) hp10
          have hp1 : upd J2 p1 (.lst [V.str d0]) p1 = _ := upd_same
          generalize upd J2 p1 (.lst [V.str d0]) = J3 at z1 hp1 ⊢
          refine ⟨lg, p1, _, _, rfl, rfl, z1 _ _ (j02 _ _ hlg16), hp1, by rw [List.length_map, sizeLine_eq]; show L.length + 1 ≤ _; omega, fun p2 hp20 => ?_⟩
          have z2 := Same.new (H := J3) (o := .lst (L.map V.str ++ [V.str d0])) hp20
          have hp2 : upd J3 p2 (.lst (L.map V.str ++ [V.str d0])) p2 = some (.lst ((L ++ [d0]).map V.str)) := by
            rw [upd_same, List.map_append]; rfl
          generalize upd J3 p2 (.lst (L.map V.str ++ [V.str d0])) = J4 at z2 hp2 ⊢
          have mJ4 := (mJ.mono z1).mono z2
          refine ⟨a, ssDb, asDb, rwDb, sts, _, t, z, p2, L ++ [d0], rfl, .inl mJ4.at', mJ4.inns, pDb, kDb, mv, hz, hp2, hL2, (by show 2 ≤ sizeLine; decide), fun tq htq0 => kR tq _ ((z1.trans z2).trans (Same.new htq0)) upd_same⟩
        · intro ddb l J1 J2b j1 j2 hdd0 hdd
          rw [mergeK_strs mv.asc.nodup] at hdd
          have j02 : L2.Same H16 J2b := L2.Same.trans j1 j2
          have hddb : J2b ddb = some (.dK (dkv (sts.map fun s => (s, List.foldl t s (L ++ [d0]))))) := by rw [hdd]; unfold dkv; rw [List.map_map]; rfl
          refine ⟨.ref tr, .ref ddb, rfl, .inl (alike_dkv 5 (j02 _ _ htr) hddb nkD (by rw [List.length_map]; omega)), fun H17 w6 => ⟨_, rfl, iteF ?_⟩⟩
          have y7 : L2.Same H9 H17 := y6.trans (j02.trans w6)
          exact ⟨_, _, _, _, _, rfl, bt9.same y7, hP9.mono y7, y7 _ _ hsq9, y7 _ _ hdq9⟩
    · rintro σ H8 ⟨x6, x7, x8, x9, x10, rfl, bt8, hP8, hsq8, hdq8⟩
      have mt8 := mt.purse hP bt8
      have gx8 := gx.purse hP bt8
      obtain ⟨dx1, m1, b1, g1⟩ := id gx8
      refine ⟨_, rfl, x, dx1, _, rfl, g1.st.ob, gflds_no _ (by decide +kernel), x, sts, _, t, rfl, gx8, fun q1 bs1 H9 s9 hq10 fr1 mq1 => ?_⟩
      refine at_name (σ' := [some (.ref p), some (.ref s0), some (.ref a), some (.ref x), some (.ref sq), some (.ref dq), x6, x7, x8, x9, some (.ref q1), none]) rfl ?_
      obtain ⟨z0, ez0⟩ : ∃ z0, sts[0]? = some z0 := ⟨_, List.getElem?_eq_getElem (List.length_pos_iff.mpr mv.ne)⟩
      obtain ⟨c, vc, hc, mc⟩ := mvK_get mq1.inns mv.asc.nodup (List.mem_of_getElem? ez0)
      have dg : DGet H9 q1 (.str z0) (some (.ref c)) := by
        have := DGet.k (k := Sum.inr z0) (show H9 q1 = some (.dK (mvK sts bs1)) from mq1.at')
        rw [vc] at this
        exact this
      refine ⟨_, rfl, _, rfl, sq, _, 0, _, rfl, rfl, SqL.of (s9 _ _ hsq8), atI_nat (j := 0) (by rw [List.getElem?_map, ez0]; rfl), q1, _, rfl, dg, .inr (.inr (.inl ⟨rfl, .inl ⟨_, hc⟩⟩)), c, _, rfl, rfl, hc, ?_⟩
      have y1 : L2.Same H8 (upd H9 c (.dK [])) := fun d o e => (upd_ne (ne_of_none e (fr1 c mc))).trans (s9 _ _ e)
      generalize upd H9 c (.dK []) = H10 at y1 ⊢
      refine ⟨_, rfl, x, dx1, _, rfl, y1 _ _ g1.st.ob, gflds_no _ (by decide +kernel), x, sts, _, t, rfl, gx8.mono y1, fun q2 H11 s11 hq20 hq2 => ⟨.inl ⟨rfl, _, SqL.of hq2⟩, q2, _, _, rfl, rfl, hq2, by rw [List.length_map]; exact small1000 (by omega), ?_⟩⟩
      have y2 : L2.Same H8 (upd H11 q2 (.lst (sts.map V.str ++ [.non]))) := fun d o e => (upd_ne (ne_of_none (y1 _ _ e) hq20)).trans (s11 _ _ (y1 _ _ e))
      generalize upd H11 q2 (.lst (sts.map V.str ++ [.non])) = H12 at y2 ⊢
      refine ⟨_, rfl, x, dx1, _, rfl, y2 _ _ g1.st.ob, gflds_no _ (by decide +kernel), x, sts, _, t, rfl, gx8.mono y2, fun q3 H13 s13 hq30 hq3 => ⟨.inl ⟨rfl, _, SqL.of hq3⟩, q3, _, _, rfl, rfl, hq3, by rw [List.length_map]; exact small1000 (by omega), ?_⟩⟩
      have y3 : L2.Same H8 (upd H13 q3 (.lst ((keysD dl).map V.str ++ [.non]))) := fun d o e => (upd_ne (ne_of_none (y2 _ _ e) hq30)).trans (s13 _ _ (y2 _ _ e))
      generalize upd H13 q3 (.lst ((keysD dl).map V.str ++ [.non])) = H14 at y3 ⊢
      have gx14 := gx8.mono y3
      have mt14 := mt8.mono y3
      have hsq14 := y3 _ _ hsq8
      have hdq14 := y3 _ _ hdq8
      obtain ⟨dxTz, mTz, bTz, gTz⟩ := id gx14
      refine ⟨_, rfl, x, dxTz, _, rfl, gTz.st.ob, gflds_no _ (by decide +kernel), x, sts, _, t, rfl, gx14, fun q1z bs1z T1z u1 hq10 _ mq1 => ?_⟩
      refine ⟨_, rfl, x, dxTz, _, rfl, u1 _ _ gTz.st.ob, gflds_no _ (by decide +kernel), x, sts, _, t, rfl, gx14.mono u1, fun q2z T2z u2 hq20 hq2 => ?_⟩
      refine ⟨_, rfl, x, dxTz, _, rfl, u2 _ _ (u1 _ _ gTz.st.ob), gflds_no _ (by decide +kernel), x, sts, _, t, rfl, (gx14.mono u1).mono u2, fun q3z T3z u3 hq30 hq3 => ?_⟩
      refine ⟨(by show 3 ≤ sizeLine; decide), fun l1z hl10 => ?_⟩
      have u4 := Same.new (H := T3z) (o := .lst [.ref q1z, .ref q2z, .ref q3z]) hl10
      have hl1 : upd T3z l1z (.lst [.ref q1z, .ref q2z, .ref q3z]) l1z = _ := upd_same
      generalize upd T3z l1z (.lst [.ref q1z, .ref q2z, .ref q3z]) = T4z at u4 hl1 ⊢
      have u04 : L2.Same H14 T4z := u1.trans (u2.trans (u3.trans u4))
      refine ⟨_, rfl, a, sts, _, t, rfl, mt14.mono u04, mv, fun o1z bs2z T5z u5 ho10 _ mo1 => ?_⟩
      refine ⟨_, rfl, _, rfl, (by show 3 ≤ sizeLine; decide), fun l2z hl20 => ?_⟩
      have u6 := Same.new (H := T5z) (o := .lst [.ref o1z, .ref sq, .ref dq]) hl20
      have hl2 : upd T5z l2z (.lst [.ref o1z, .ref sq, .ref dq]) l2z = _ := upd_same
      generalize upd T5z l2z (.lst [.ref o1z, .ref sq, .ref dq]) = T6z at u6 hl2 ⊢
      have nqoz : q1z ≠ o1z := fun e => by
        have := u4 _ _ (u3 _ _ (u2 _ _ mq1.at'))
        rw [e, ho10] at this; cases this
      have u16 : L2.Same T1z T6z := u2.trans (u3.trans (u4.trans (u5.trans u6)))
      have u06 : L2.Same H14 T6z := u1.trans u16
      have alkz : AlikeD 8 T6z (.ref l1z) (.ref l2z) := .inr (.inl ⟨l1z, l2z, _, _, rfl, rfl, u6 _ _ (u5 _ _ hl1), hl2, by show 3 ≤ 100; decide, .cons (alikeD_mv 3 (mq1.mono u16) (mo1.mono u6) nqoz mv.asc.nodup mv.rowsW mv.rok) (.cons (.inl (alike_strs 5 (u6 _ _ (u5 _ _ (u4 _ _ (u3 _ _ hq2)))) (u06 _ _ hsq14) mv.rowsW)) (.cons (.inl (alike_strs 5 (u6 _ _ (u5 _ _ (u4 _ _ hq3))) (u06 _ _ hdq14) (by omega))) .nil))⟩)
      refine ⟨.ref l1z, .ref l2z, rfl, alkz, fun T7z u7 => ?_⟩
      have u07z : L2.Same H14 T7z := u06.trans u7
      clear u1 u2 u3 u4 u04 u5 u6 u16 u06 u7 hq10 hq20 hq30 hl10 ho10 hl20

      have y4 : L2.Same H8 T7z := y3.trans u07z
      exact k _ (bt8.same y4) ((hP8.mono y4).le (by omega))
end
end KT
set_option Elab.async false
set_option linter.all false
set_option maxRecDepth 100000
set_option maxHeartbeats 4000000
set_option pp.maxSteps 900
namespace KT
open PySem L2 PyProof.Rows DTp TxS DKq
section
variable {K : PySem.W.Frag}
/-- dict([(text, the tuple) for tuple in dict]) -/
theorem rdT_keysT {ι : Type} {key : ι → List Key} {val : ι → V} (nm : ι → Str) {te0 : TE} {g : TG} {te : TE} {vs : List Nat} {σ : L2.St} {H : Hp} {Q : VK} {d : Addr} {kvs : List (List Key × V)} {is : List ι}
    (hi : ∀ od (R : VK), R (.ref d) (upd H d (.frz od (.dT kvs))) → te0 σ (upd H d (.frz od (.dT kvs))) R) (hd : H d = some (.dT kvs)) (e1 : kvs = is.map fun a => (key a, val a)) (few : is.length ≤ 1000) (ndn : (is.map nm).Nodup)
    (step : ∀ a q od H2 (R : VK), a ∈ is → L2.Same (upd H d (.frz od (.dT kvs))) H2 → H2 q = some (.tup ((key a).map kV)) → (∀ t H3, L2.Same H2 H3 → H3 t = some (.tup [.str (nm a), .ref q]) → R (.ref t) H3) → g (.ref q) (wipe σ vs) H2 fun σ2 H3 => wipe σ2 vs = wipe σ vs ∧ te σ2 H3 R)
    (k : ∀ q (qs : List Addr) H', L2.Same H H' → H q = none → qs.length = is.length → H' q = some (.dK (mvK (is.map nm) qs)) → (∀ (i : Nat) a c, is[i]? = some a → qs[i]? = some c → H' c = some (.tup ((key a).map kV))) → Q (.ref q) H') :
    tCB (rDP K) (tCons (tLockE (tLc (iKeys te0) g tYes te vs)) tNil) σ H Q := by
  have lk : kvs.length = is.length := by rw [e1, List.length_map]
  refine ⟨d, .dT kvs, hd, trivial, fun od => ?_⟩
  refine hi od _ ⟨d, od, rfl, .inr ⟨kvs, upd_same, fun D hD => ?_⟩⟩
  obtain ⟨H1, eH1⟩ : ∃ H1, H1 = upd H d (.frz od (.dT kvs)) := ⟨_, rfl⟩
  rw [← eH1] at hD ⊢
  have hfd : H1 d = some (.frz od (.dT kvs)) := by rw [eH1]; exact upd_same
  have nDd : D ≠ d := fun e => by rw [e, hfd] at hD; cases hD
  refine lc_it (walk_keysT (d := d) (o := od) (kvs := kvs)) (fun n H' => L2.Same H1 H' ∧ ∃ prs : List (Addr × Addr), H' D = some (.lst (prs.map fun p => V.ref p.1)) ∧ Paired (fun (p : Addr × Addr) a => H' p.1 = some (.tup [.str (nm a), .ref p.2]) ∧ H' p.2 = some (.tup ((key a).map kV))) prs (is.take n)) ?_ ?_ ?_ ?_
  · exact ⟨Same.new hD, [], upd_same, by rw [List.take_zero]; exact .nil⟩
  · rintro i H2 _ ⟨s2, _⟩
    exact s2 _ _ hfd
  · rintro n x H0 H2 hn ⟨s2, prs, hD2, pr⟩ ⟨rfl, kk, v2, q, hk, rfl, hq⟩
    rw [lk] at hn
    obtain ⟨y, hyx⟩ : ∃ y, y = is[n] := ⟨_, rfl⟩
    have ey : is[n]? = some y := by rw [hyx]; exact List.getElem?_eq_getElem hn
    have ek : kvs[n]? = some (key y, val y) := by rw [e1, List.getElem?_map, ey]; rfl
    rw [hk] at ek
    have ek := Option.some.inj ek
    obtain ⟨rfl, rfl⟩ : kk = key y ∧ v2 = val y := ⟨congrArg Prod.fst ek, congrArg Prod.snd ek⟩
    refine step y q od H2 _ (List.mem_of_getElem? ey) (by rw [← eH1]; exact s2) hq fun t H3 s3 ht => ?_
    have lp := Paired.length pr
    rw [List.length_take] at lp
    have hD3 := s3 _ _ hD2
    refine ⟨_, hD3, by rw [List.length_map]; exact small1000 (by omega), fun c o e => ?_, prs ++ [(t, q)], by rw [upd_same, List.map_append]; rfl, ?_⟩
    · rw [upd_ne (ne_of_none e hD)]
      exact s3 _ _ (s2 _ _ e)
    · rw [take_next' ey]
      exact paired_snoc (Paired.mapP pr fun p a h => ⟨(upd_ne (ne_of (s3 _ _ h.1) hD3 (fun z => nomatch z))).trans (s3 _ _ h.1), (upd_ne (ne_of (s3 _ _ h.2) hD3 (fun z => nomatch z))).trans (s3 _ _ h.2)⟩) ⟨(upd_ne (ne_of ht hD3 (fun z => nomatch z))).trans ht, (upd_ne (ne_of (s3 _ _ hq) hD3 (fun z => nomatch z))).trans (s3 _ _ hq)⟩
  · rintro H2 ⟨s2, prs, hD2, pr⟩
    rw [lk, List.take_length] at pr
    have hdl : H2 d = some (.frz od (.dT kvs)) := s2 _ _ hfd
    have lp := Paired.length pr
    have s3 : L2.Same H (upd H2 d (.dT kvs)) := fun b o e => by
      by_cases hb : b = d
      · rw [hb] at e ⊢
        rw [hd] at e
        rw [upd_same]; exact e
      · rw [upd_ne hb]
        refine s2 _ _ ?_
        rw [eH1, upd_ne hb]
        exact e
    have pr3 : Paired (fun (p : Addr × Addr) a => (upd H2 d (.dT kvs)) p.1 = some (.tup [.str (nm a), .ref p.2]) ∧ (upd H2 d (.dT kvs)) p.2 = some (.tup ((key a).map kV))) prs is := Paired.mapP pr fun p a h => ⟨(upd_ne (ne_of h.1 hdl (fun z => nomatch z))).trans h.1, (upd_ne (ne_of h.2 hdl (fun z => nomatch z))).trans h.2⟩
    have hD3 : (upd H2 d (.dT kvs)) D = some (.lst (prs.map fun p => V.ref p.1)) := (upd_ne nDd).trans hD2
    refine ⟨hdl, ?_⟩
    generalize upd H2 d (.dT kvs) = H3 at s3 pr3 hD3 ⊢
    have lq : (prs.map Prod.snd).length = (is.map nm).length := by rw [List.length_map, List.length_map, lp]
    refine ⟨D, prs.map Prod.fst, mvK (is.map nm) (prs.map Prod.snd), rfl, SqL.of (by rw [hD3, List.map_map]; rfl), paired_of (by rw [List.length_map, List.length_map, List.length_zip, lq, Nat.min_self, List.length_map, lp]) fun i t kv h1 h2 => ?_, fun q hq0 => ?_⟩
    · rw [List.getElem?_map] at h1
      cases e : prs[i]? with
      | none => rw [e] at h1; cases h1
      | some p =>
        rw [e] at h1
        obtain rfl : p.1 = t := Option.some.inj h1
        obtain ⟨y, ey⟩ : ∃ y, is[i]? = some y := ⟨_, List.getElem?_eq_getElem (by rw [← lp]; exact (List.getElem?_eq_some_iff.mp e).1)⟩
        have h := paired_nth pr3 i p y e ey
        have e5 : ((is.map nm).zip (prs.map Prod.snd))[i]? = some (nm y, p.2) := List.getElem?_zip_eq_some.mpr ⟨by rw [List.getElem?_map, ey]; rfl, by rw [List.getElem?_map, e]; rfl⟩
        rw [List.getElem?_map, e5] at h2
        obtain rfl := Option.some.inj h2
        exact SqT.of h.1
    · rw [mergeK_nd _ _ (by rw [List.nil_append, mvK_keys lq]; exact inr_nodup ndn), List.nil_append]
      have hD0 : H D = none := by
        rw [eH1, upd_ne nDd] at hD
        exact hD
      refine k q (prs.map Prod.snd) _ (s3.trans (Same.new hq0)) (s3.free hq0) (by rw [List.length_map, lp]) upd_same fun i a c h1 h2 => ?_
      rw [List.getElem?_map] at h2
      cases e : prs[i]? with
      | none => rw [e] at h2; cases h2
      | some p =>
        rw [e] at h2
        obtain rfl : p.2 = c := Option.some.inj h2
        have h := paired_nth pr3 i p a e h1
        exact (Same.new hq0) _ _ h.2
end
/-- two dicts of tuples of texts -/
theorem alikeD_tups {H : Hp} {a b : Addr} {ws : List Str} {ts qs : List Addr} {pr : List (Str × Str)} (n : Nat) (ha : H a = some (.dK (mvK ws ts))) (hb : H b = some (.dK (mvK ws qs))) (lt : ts.length = ws.length) (lq : qs.length = ws.length) (lp : pr.length = ws.length) (nab : a ≠ b) (nd : ws.Nodup) (few : ws.length ≤ 100)
    (ht : ∀ (i : Nat) p c, pr[i]? = some p → ts[i]? = some c → H c = some (.tup [.str p.1, .str p.2])) (hq : ∀ (i : Nat) p c, pr[i]? = some p → qs[i]? = some c → H c = some (.tup [.str p.1, .str p.2])) : AlikeD (n + 4) H (.ref a) (.ref b) := by
  refine .inr (.inr ⟨a, b, _, _, ws, by omega, rfl, rfl, nab, ha, hb, mvK_keys lt, mvK_keys lq, nd, few, fun s hs => ?_⟩)
  obtain ⟨i, hi⟩ := List.mem_iff_getElem?.mp hs
  have hlt := (List.getElem?_eq_some_iff.mp hi).1
  obtain ⟨p, ep⟩ : ∃ p, pr[i]? = some p := ⟨_, List.getElem?_eq_getElem (by rw [lp]; exact hlt)⟩
  obtain ⟨c, ec⟩ : ∃ c, ts[i]? = some c := ⟨_, List.getElem?_eq_getElem (by rw [lt]; exact hlt)⟩
  obtain ⟨d, ed⟩ : ∃ d, qs[i]? = some d := ⟨_, List.getElem?_eq_getElem (by rw [lq]; exact hlt)⟩
  have hc := ht i p c ep ec
  have hd := hq i p d ep ed
  have v1 : valV (mvK ws ts) (Sum.inr s) = some (.ref c) := valV_mem (by rw [mvK_keys lt]; exact inr_nodup nd) (List.mem_map.mpr ⟨(s, c), List.mem_of_getElem? (List.getElem?_zip_eq_some.mpr ⟨hi, ec⟩), rfl⟩)
  have v2 : valV (mvK ws qs) (Sum.inr s) = some (.ref d) := valV_mem (by rw [mvK_keys lq]; exact inr_nodup nd) (List.mem_map.mpr ⟨(s, d), List.mem_of_getElem? (List.getElem?_zip_eq_some.mpr ⟨hi, ed⟩), rfl⟩)
  have nca : c ≠ a := ne_of hc ha (fun z => nomatch z)
  have nda : d ≠ a := ne_of hd ha (fun z => nomatch z)
  exact ⟨_, _, v1, v2, fun od => .inl (.inr (.inr (.inl ⟨c, d, _, _, rfl, rfl, (upd_ne nca).trans hc, (upd_ne nda).trans hd, by show 2 ≤ 100; decide, .cons (.inl (.inl ⟨_, rfl, rfl⟩)) (.cons (.inl (.inl ⟨_, rfl, rfl⟩)) .nil)⟩)))⟩
def prD (p : Str × Str) : PyData := .tuple [.str p.1, .str p.2]
section
variable {K : PySem.W.Frag}
theorem dpAll_prs {H : Hp} : ∀ {ts : List Addr} {ps : List (Str × Str)}, Paired (fun t (p : Str × Str) => H t = some (.tup [.str p.1, .str p.2])) ts ps → DpAll K H (ts.map V.ref) (ps.map prD)
  | _, _, .nil => .nil
  | _, _, .cons r t => .cons (.tup (SqT.of r) (.cons (.str _) (.cons (.str _) .nil))) (dpAll_prs t)
end
theorem lay_prs : ∀ ps : List (Str × Str), (∀ p ∈ ps, Wd p.1 ∧ Wd p.2) → PyData.canLayAll0 (ps.map prD) = true
  | [], _ => rfl
  | p :: ps, h => by
    have h1 := lay_strs [p.1, p.2] (fun x hx => by
      rcases List.mem_cons.mp hx with e | hx
      · rw [e]; exact (h p List.mem_cons_self).1
      · rw [List.mem_singleton.mp hx]; exact (h p List.mem_cons_self).2)
    have h2 := lay_prs ps fun q hq => h q (List.mem_cons_of_mem _ hq)
    simp only [List.map_cons, List.map_nil, prD, PyData.canLayAll0, PyData.canLay0, Bool.and_eq_true] at h1 h2 ⊢
    exact ⟨h1, h2⟩
theorem depth_prs : ∀ ps : List (Str × Str), PyData.depthAll (ps.map prD) ≤ 4
  | [] => by simp [PyData.depthAll]
  | p :: ps => by
    have h1 := depth_prs ps
    have h2 := depth_strs [p.1, p.2]
    simp only [List.map_cons, List.map_nil, prD, PyData.depthAll, PyData.depth] at h1 h2 ⊢
    omega
theorem shaped_prs (ps : List (Str × Str)) (h : ∀ p ∈ ps, Wd p.1 ∧ Wd p.2) : SeqAt.shaped (.list (ps.map prD)) = true := by
  have h1 := depth_prs ps
  have h2 : PyData.depth (.list (ps.map prD)) ≤ 64 := by
    simp only [PyData.depth]
    omega
  show (PyData.canLay0 (.list (ps.map prD)) && decide (PyData.depth (.list (ps.map prD)) ≤ 64)) = true
  rw [Bool.and_eq_true]
  exact ⟨by simp only [PyData.canLay0]; exact lay_prs ps h, decide_eq_true h2⟩
theorem eqv_prs (ps : List (Str × Str)) (h : ∀ p ∈ ps, Wd p.1 ∧ Wd p.2) : PyData.eqv (.list (ps.map prD)) (.list (ps.map prD)) = true :=
  SeqAt.eqv_refl _ (by simp only [PyData.canLay0]; exact lay_prs ps h)
end KT
set_option Elab.async false
set_option linter.all false
set_option maxRecDepth 100000
set_option maxHeartbeats 4000000
set_option pp.maxSteps 900
namespace KT
open PySem L2 PyProof.Rows DTp TxS DKq
theorem sameG_self {sts ds : List Str} {t : Str → Str → Str} (m : MV sts ds t) : sameG sts ds t sts ds t = true := by
  unfold sameG
  rw [Bool.and_eq_true]
  refine ⟨beq_self_eq_true _, List.all_eq_true.mpr fun s hs => ?_⟩
  rw [Bool.and_eq_true]
  exact ⟨decide_eq_true hs, sameK_self (by rw [rowT_keys]; exact m.dsc.nodup)⟩
theorem mvK_vals {ws : List Str} {ts : List Addr} (l : ts.length = ws.length) : (mvK ws ts).map (·.2) = ts.map V.ref := by
  rw [List.map_map]
  have e : (ws.zip ts).map Prod.snd = ts := List.map_snd_zip (Nat.le_of_eq l)
  conv => rhs; rw [← e, List.map_map]
  rfl
section
variable {P : Program} {w : World} {K : PySem.W.Frag} {mg : Str → Option Value} {base : Heap} {G : Addr}
structure BrC (P : Program) (w : World) (K : PySem.W.Frag) (mg : Str → Option Value) (base : Heap) (G : Addr) : Prop where
  pair : Cee P w K mg base 2 "_law_paired" ["_law_one", "_law_other"] spPaired
  bs : Cee P w K mg base 6 "both_stores" ["one", "other"] (spBothS G)
  bn : Cee P w K mg base 3 "both_names" ["one", "other"] (spBothN G)
  exD : Cee P w K mg base 9 "_law_exact" ["_law_mine", "_law_theirs"] (spExactD 8)
  mov : Mee P w K mg base G 1 "moves" ["self"] (spGMovesT G)
  ord : Cee P w K mg base 1 "_law_ordered_moves" ["_law_moves"] spOrd
  eqg : OwQ.EqC P w K mg base 1 G (spGEq K G)
  nf : PySem.W.notFirst K G (.ref G) = true
def spBothR (G : Addr) : Sp := fun vs H Q _ => ∃ (a b x y : Addr) (sts sts2 ds : List Str) (t t2 : Str → Str → Str), vs = [.ref a, .ref b, .ref x, .ref y] ∧ MvT H a sts ds t ∧ MV sts ds t ∧ MvT H b sts2 ds t2 ∧ MV sts2 ds t2 ∧ GoE G H x sts ds t ∧ GoE G H y sts2 ds t2 ∧ sts.length * sts2.length < 64 ∧ ∀ H', L2.Same H H' → Q (.bl true) H'
abbrev nBothR : List Str := ["_law_one", "_law_other", "_law_first", "_law_second", "_law_names", "_law_moves", "_law_told", "_law_words_here", "_law_pair"]
theorem scBothR : FnScope nBothR ["_law_one", "_law_other", "_law_first", "_law_second"] (defScope sBothR) := ⟨rfl, rfl, rfl, by decide +kernel, rfl, by decide +kernel, by decide +kernel⟩
theorem ok_bothR {g : Addr} {fd : FuncData} (F : Fun K "_law_both_right" "_law_both_right" sBothR g fd) (Z : Blp mg) (T : GTy K mg G) (M : BrC P w K mg base G) : FnOk P w K mg base CX0 10 g fd ["_law_one", "_law_other", "_law_first", "_law_second"] (spBothR G) := by
  refine F.ok scBothR (fun vs H Q E h => ?_) (fun cdv A outer s H vs Q E hr h => ?_)
  · obtain ⟨a, b, x, y, sts, sts2, ds, t, t2, rfl, _⟩ := h
    rfl
  · obtain ⟨a, b, x, y, sts, sts2, ds, t, t2, rfl, ma, mv1, mb, mv2, gx, gy, few, k⟩ := h
    have nd := scBothR.nd
    refine ⟨_, pss_cons (ps_asg (pe_c M.pair hr rfl (pa_cons (pv 0) (pa_cons (pv 1) (pa_nil)))) (pg_unl rfl (pgs_cons (pg_name (i := 4) nd rfl (Or.inr rfl)) (pgs_cons (pg_name (i := 5) nd rfl (Or.inl rfl)) pgs_nil))))
      (pss_cons (ps_par (i := 6) (j := 7) rfl nd rfl rfl (by decide) rfl rfl (pa_cons (pe_c M.bs hr rfl (pa_cons (pv 2) (pa_cons (pv 3) (pa_nil)))) (pa_cons (pe_c M.bn hr rfl (pa_cons (pv 2) (pa_cons (pv 3) (pa_nil)))) (pa_nil))) (by rfl))
      (pss_cons (ps_if (pt_not (pt_val (pe_c M.exD hr rfl (pa_cons (pe_lst (pa_cons (pe_m0 M.mov T.cl hr (pv 6)) (pa_cons (pv 7) (pa_nil)))) (pa_cons (pe_lst (pa_cons (pe_c M.ord hr rfl (pa_cons (pv 5) (pa_nil))) (pa_cons (pe_callTy (cr_dictP rfl) (by rfl) Z.dict (by decide +kernel) (pa_cons (pe_lock (pe_lc (own := [("_law_pair", 8)]) (g := gName 8) (tt := tYes) (te := tTup (tCons (tDGet (tVar 4) (tVar 8)) (tCons (tVar 8) (tNil)))) rfl nd (pi_keys (pv 4)) (blkOk_by (own := [("_law_pair", 8)]) (N := nBothR) (sc := defScope sBothR) (by decide +kernel)) (fun _ _ _ _ _ => pg_name (i := 8) nd rfl (Or.inl rfl)) (fun _ _ _ _ _ => pts_nil) (fun _ _ _ _ _ => pe_tup (pa_cons (pe_dget (hu_of hr) (pv 4) (pv 8) (fun _ _ => rfl)) (pa_cons (pv 8) (pa_nil)))))) (pa_nil))) (pa_nil)))) (pa_nil)))))) (pss_one (ps_ret (pe_bl))) pss_nil)
      (pss_cons (ps_expr (pe_dclear (pv 7)))
      (pss_one (ps_ret (pe_and (pe_cmpR (OwQ.op_eqOwn M.eqg (hr.mono (by decide))) (pe_c M.bs hr rfl (pa_cons (pv 2) (pa_cons (pv 3) (pa_nil)))) (pv 6) (nomark _)) (pe_one (pe_cmpR (op_eqD hr.units) (pe_listVals rfl (pe_c M.bn hr rfl (pa_cons (pv 2) (pa_cons (pv 3) (pa_nil)))) (by rfl) Z.list) (pe_callTy (call_list_dT rfl) (by rfl) Z.list (by decide +kernel) (pa_cons (pv 4) (pa_nil))) (nomark _))))))))), ?_⟩
    have n1 := mv1.asc.nodup
    have n2 := mv2.asc.nodup
    have bmv := bothMV mv1 mv2 few
    obtain ⟨n, en⟩ : ∃ n, n = sts.length * sts2.length := ⟨_, rfl⟩
    have lpr : (prsG sts sts2).length = n := by rw [prsG_len, en]
    have wmap := words_map n1 n2 few
    refine ⟨_, rfl, _, rfl, a, b, sts, sts2, ds, t, t2, rfl, ma, mv1, mb, mv2, few, fun l nq mq bs H1 s1 hl0 hnq0 hmq0 hl hnq hm => ?_⟩
    refine ⟨l, _, rfl, SqL.of hl, rfl, _, _, rfl, ?_⟩
    refine at_name (σ' := [some (.ref a), some (.ref b), some (.ref x), some (.ref y), some (.ref nq), none, none, none, none]) rfl ?_
    refine ⟨_, _, rfl, ?_⟩
    refine at_name (σ' := [some (.ref a), some (.ref b), some (.ref x), some (.ref y), some (.ref nq), some (.ref mq), none, none, none]) rfl ⟨rfl, ?_⟩
    rw [← en] at bmv few hm wmap
    have mo : MvT H1 mq (ascOf (cws n)) ds (bothT sts sts2 t t2) := ⟨_, bs, _, hm, (ascOf_perm _).symm, fun s _ => ⟨by rw [rowT_keys], fun o ho => kof_rowT mv1.dsc.nodup _ s ho⟩⟩
    -- both stores, both names
    refine ⟨_, rfl, _, rfl, x, y, sts, sts2, ds, t, t2, rfl, gx.mono s1, gy.mono s1, by rw [← en]; exact few, fun z H2 gz hz0 s2 => ?_⟩
    rw [← en] at gz
    refine ⟨_, rfl, _, rfl, x, y, sts, sts2, ds, t, t2, rfl, (gx.mono s1).mono s2, (gy.mono s1).mono s2, by rw [← en]; exact few, fun d ts H3 s3 hd0 hd pd => ?_⟩
    rw [← en] at hd
    refine ⟨_, _, rfl, ?_⟩
    refine at_slots (σ' := [some (.ref a), some (.ref b), some (.ref x), some (.ref y), some (.ref nq), some (.ref mq), some (.ref z), some (.ref d), none]) rfl ?_
    have gz4 := gz.mono s3
    have s14 : L2.Same H1 H3 := s2.trans s3
    have hnq4 := s14 _ _ hnq
    have mo4 := mo.mono s14
    obtain ⟨dxz, mz, bz, gz5⟩ := id gz4
    -- exact
    refine ⟨_, rfl, z, dxz, _, rfl, gz5.st.ob, gflds_no _ (by decide +kernel), z, _, _, _, rfl, gz4, fun q1 bs1 H5 s5 hq10 _ mq1 => ?_⟩
    refine ⟨_, rfl, (by show 2 ≤ sizeLine; decide), fun l1 hl10 => ?_⟩
    have s6 := Same.new (H := H5) (o := .lst [.ref q1, .ref d]) hl10
    have hl1 : upd H5 l1 (.lst [.ref q1, .ref d]) l1 = _ := upd_same
    generalize upd H5 l1 (.lst [.ref q1, .ref d]) = H6 at s6 hl1 ⊢
    have s36 := s5.trans s6
    refine ⟨_, rfl, mq, _, ds, _, rfl, mo4.mono s36, bmv, fun o1 bs2 H7 s7 ho10 _ mo1 => ?_⟩
    have s37 := s36.trans s7
    show tCB (rDP K) (tCons (tLockE (tLc (iKeys (tVar 4)) (gName 8) tYes _ [8])) tNil) _ _ _
    refine rdT_keysT (K := K) (key := keyP) (val := valW (wordG sts sts2)) (fun pp : Str × Str => wordG sts sts2 pp.1 pp.2) (fun od R hh => ⟨_, rfl, hh⟩) (s37 _ _ hnq4) rfl (by omega) (by rw [wmap]; exact cws_nd (by omega)) ?_ ?_
    · intro pp q od H8 R hpp s8 hq kR
      refine at_name (σ' := [some (.ref a), some (.ref b), some (.ref x), some (.ref y), some (.ref nq), some (.ref mq), some (.ref z), some (.ref d), some (.ref q)]) rfl ⟨rfl, ?_⟩
      have dn : DGet H8 nq (.ref q) (some (.str (wordG sts sts2 pp.1 pp.2))) := by
        refine .inr ⟨_, keyP pp, q, .inr ⟨od, s8 _ _ upd_same⟩, rfl, hq, ?_⟩
        exact (valV_mem (by rw [List.map_map]; exact List.pairwise_map.mpr (List.Pairwise.imp (fun ne e => ne (keyP_inj _ _ e)) (prsG_nodup n1 n2))) (List.mem_map.mpr ⟨pp, hpp, rfl⟩)).symm
      exact ⟨_, rfl, _, rfl, nq, _, rfl, dn, _, rfl, (by show 2 ≤ sizeLine; decide), fun tq htq0 => kR tq _ (Same.new htq0) upd_same⟩
    · intro w qs H8 s8 hw0 lqs hw hqs
      rw [wmap] at hw
      refine ⟨(by show 2 ≤ sizeLine; decide), fun l2 hl20 => ?_⟩
      have s9 := Same.new (H := H8) (o := .lst [.ref o1, .ref w]) hl20
      have hl2 : upd H8 l2 (.lst [.ref o1, .ref w]) l2 = _ := upd_same
      generalize upd H8 l2 (.lst [.ref o1, .ref w]) = H9 at s9 hl2 ⊢
      have s79 : L2.Same H7 H9 := s8.trans s9
      have s69 : L2.Same H6 H9 := s7.trans s79
      have s59 : L2.Same H5 H9 := s6.trans s69
      have s39 : L2.Same H3 H9 := s37.trans s79
      have nqo : q1 ≠ o1 := fun e => by
        have := s6 _ _ mq1.at'
        rw [e, ho10] at this; cases this
      have ndw : d ≠ w := fun e => by
        have := s37 _ _ hd
        rw [e, hw0] at this; cases this
      have lcw : (cws n).length = n := cws_len _ (by omega)
      have lts : ts.length = n := by rw [Paired.length pd, lpr]
      have alk : AlikeD 8 H9 (.ref l1) (.ref l2) := .inr (.inl ⟨l1, l2, _, _, rfl, rfl, s69 _ _ hl1, hl2, by show 2 ≤ 100; decide,
        .cons (alikeD_mv 3 (mq1.mono s59) (mo1.mono s79) nqo bmv.asc.nodup bmv.rowsW bmv.rok) (.cons (alikeD_tups 3 (pr := prsG sts sts2) (s39 _ _ hd) (s9 _ _ hw) (by rw [lts, lcw]) (by rw [lqs, lpr, lcw]) (by rw [lpr, lcw]) ndw (cws_nd (by omega)) (by rw [lcw]; omega) (fun i p c hp hc => s39 _ _ (paired_nth pd i c p hc hp)) fun i p c hp hc => s9 _ _ (hqs i p c hp hc)) .nil)⟩)
      refine ⟨.ref l1, .ref l2, rfl, alk, fun H10 s10 => ⟨_, rfl, iteF ?_⟩⟩
      have s310 : L2.Same H3 H10 := s39.trans s10
      have hd10 := s310 _ _ hd
      refine ⟨_, rfl, .inr (.inr (.inl ⟨rfl, .inl ⟨_, hd10⟩⟩)), d, _, rfl, rfl, hd10, ?_⟩
      have y2 : L2.Same H2 (upd H10 d (.dK [])) := fun c o e => (upd_ne (ne_of_none e hd0)).trans (s310 _ _ (s3 _ _ e))
      generalize upd H10 d (.dK []) = H11 at y2 ⊢
      have y0 : L2.Same H H11 := s1.trans (s2.trans y2)
      clear alk s310 hd10 s79 s69 s59 s39 s36 s37
      refine ⟨_, rfl, _, rfl, x, y, sts, sts2, ds, t, t2, rfl, gx.mono y0, gy.mono y0, by rw [← en]; exact few, fun z2 H12 gz2 hz20 s12 => ?_⟩
      rw [← en] at gz2
      obtain ⟨dx2, m2, b2, g2⟩ := id gz2
      have gz12 := (gz.mono y2).mono s12
      obtain ⟨dx3, m3, b3, g3⟩ := id gz12
      refine ⟨_, rfl, z2, dx2, _, _, rfl, g2.st.ob, T.ty g3.st.ob, M.nf, z2, .ref z, _, _, _, rfl, gz2, .inl ⟨z, _, _, _, rfl, gz12, _, rfl, ?_⟩⟩
      rw [sameG_self bmv, if_neg Bool.false_ne_true]
      refine ⟨_, rfl, iteT ?_⟩
      have y12 : L2.Same H H12 := y0.trans s12
      refine ⟨_, rfl, _, rfl, x, y, sts, sts2, ds, t, t2, rfl, gx.mono y12, gy.mono y12, by rw [← en]; exact few, fun d2 ts2 H13 s13 hd20 hd2 pd2 => ?_⟩
      rw [← en] at hd2
      refine ⟨d2, _, rfl, hd2, fun lv hlv0 => ?_⟩
      have lts2 : ts2.length = n := by rw [Paired.length pd2, lpr]
      rw [mvK_vals (by rw [lts2, lcw])]
      have s14' := Same.new (H := H13) (o := .lst (ts2.map V.ref)) hlv0
      have hlv : upd H13 lv (.lst (ts2.map V.ref)) lv = _ := upd_same
      generalize upd H13 lv (.lst (ts2.map V.ref)) = H14 at s14' hlv ⊢
      refine ⟨_, rfl, nq, _, rfl, .inl (s14' _ _ (s13 _ _ (s12 _ _ (y2 _ _ (s2 _ _ hnq))))), fun ln kb hln0 ik => ?_⟩
      have s15 := Same.new (H := H14) (o := .lst (kb.map V.ref)) hln0
      have hln : upd H14 ln (.lst (kb.map V.ref)) ln = _ := upd_same
      generalize upd H14 ln (.lst (kb.map V.ref)) = H15 at s15 hln ⊢
      have lkb : kb.length = n := by
        have := Paired.length ik
        rw [List.length_map, lpr] at this
        exact this.symm
      have pk : PrT H15 kb (prsG sts sts2) := paired_of (by rw [lkb, lpr]) fun i c p hc hp => s15 _ _ (paired_nth ik i (keyP p, valW (wordG sts sts2) p) c (by rw [List.getElem?_map, hp]; rfl) hc)
      have wd : ∀ p ∈ prsG sts sts2, Wd p.1 ∧ Wd p.2 := fun p hp => ⟨mv1.wd _ (prsG_mem.mp hp).1, mv2.wd _ (prsG_mem.mp hp).2⟩
      refine ⟨_, _, .lst (SqL.of (s15 _ _ hlv)) (dpAll_prs ((pd2.mono s14').mono s15)), .lst (SqL.of hln) (dpAll_prs pk), shaped_prs _ wd, shaped_prs _ wd, ?_⟩
      rw [eqv_prs _ wd]
      exact k _ (y12.trans (s13.trans (s14'.trans s15)))
end
end KT
set_option Elab.async false
set_option linter.all false
set_option maxRecDepth 100000
set_option maxHeartbeats 4000000
set_option pp.maxSteps 900
namespace KT
open PySem L2 PyProof.Rows DTp TxS DKq
theorem atI_lastS {xs : List V} {v : V} (h : xs[xs.length - 1]? = some v) : atI xs (-1) = some v := by
  have ne : xs ≠ [] := fun e => by rw [e] at h; cases h
  have e := List.dropLast_concat_getLast ne
  have hl : xs.getLast ne = v := by
    rw [List.getLast_eq_getElem]
    obtain ⟨h1, h2⟩ := List.getElem?_eq_some_iff.mp h
    exact h2
  rw [← e, hl]
  exact L2.atI_last _ v
theorem mk_storeG {G : Addr} {H : Hp} {Q : VK} {a x dx : Addr} {sts ds : List Str} {t : Str → Str → Str} (h : MvT H a sts ds t) (mv : MV sts ds t) (hx : H x = none) (hdx : H dx = none) (ne : dx ≠ x)
    (k : ∀ m bs H', GoAt G H' x dx m sts bs ds t → H m = none → (∀ b ∈ bs, H b = none) → L2.Same H H' → Q .non H') : spGInit G (.ref x :: ([.ref a] ++ [])) (upd (upd H dx (.own x)) x (.ins G dx [])) Q E0 := by
  obtain ⟨ss, as, row, m, p, kk⟩ := h
  have s2 : L2.Same H (upd (upd H dx (.own x)) x (.ins G dx [])) := fun b o e => (upd_ne (ne_of_none e hx)).trans ((upd_ne (ne_of_none e hdx)).trans e)
  refine ⟨x, dx, a, ss, as, row, ds, rfl, upd_same, m.mono s2, mv.okP p kk, by rw [p.length_eq]; exact mv.few, fun H' mm bs st hm0 hb0 keep => k mm bs H' ⟨?_, mv⟩ (s2.free hm0) (fun b hb => s2.free (hb0 b hb)) fun b o e => keep b o (s2 b o e) (ne_of_none e hx)⟩
  have e : ascOf ss = sts := (ascOf_asc (p.nodup_iff.mpr mv.asc.nodup)).eq mv.asc ((ascOf_perm ss).trans p)
  rw [e] at st
  refine ⟨st.ob, st.mv.at', st.mv.len, st.mv.nda, fun i s b h1 h2 => ?_⟩
  rw [← rowD_T (kk s (List.mem_of_getElem? h1)).2]
  exact st.mv.inn i s b h1 h2
section
variable {P : Program} {w : World} {K : PySem.W.Frag} {mg : Str → Option Value} {base : Heap} {G : Addr}
structure LrC (P : Program) (w : World) (K : PySem.W.Frag) (mg : Str → Option Value) (base : Heap) (G : Addr) : Prop where
  lent : Cee P w K mg base 1 "_law_lent" ["_law_moves"] spLent
  gmk : GMk P w K mg base G
  ord : Cee P w K mg base 1 "_law_ordered_moves" ["_law_moves"] spOrd
  bhL : Cee P w K mg base 1 "_law_behind" ["_law_moves", "_law_state", "_law_log_here"] spLedT
  bal : Cee P w K mg base 4 "behind_all" ["store", "log"] (spBehindAll G)
  exD : Cee P w K mg base 9 "_law_exact" ["_law_mine", "_law_theirs"] (spExactD 8)
  mov : Mee P w K mg base G 1 "moves" ["self"] (spGMovesT G)
  sta : Mee P w K mg base G 1 "states" ["self"] (spGStates G)
  ded : Mee P w K mg base G 2 "deeds" ["self"] (spGDeeds G)
  sto : Cee P w K mg base 6 "_law_store" ["_law_moves"] (spSto G)
  eqg : OwQ.EqC P w K mg base 1 G (spGEq K G)
  nf : PySem.W.notFirst K G (.ref G) = true
def spLentR : Sp := fun vs H Q _ => ∃ (a : Addr) (sts ds : List Str) (t : Str → Str → Str), vs = [.ref a] ∧ MvT H a sts ds t ∧ MV sts ds t ∧ ∀ H', L2.Same H H' → Q (.bl true) H'
abbrev nLentR : List Str := ["_law_moves", "_law_lent_here", "_law_store_here", "_law_states", "_law_deeds", "_law_state", "_law_due"]
theorem scLentR : FnScope nLentR ["_law_moves"] (defScope sLentR) := ⟨rfl, rfl, rfl, by decide +kernel, rfl, by decide +kernel, by decide +kernel⟩
theorem GoAt.keep {H H' : Hp} {x dx m : Addr} {sts ds : List Str} {t : Str → Str → Str} {bs : List Addr} (h : GoAt G H x dx m sts bs ds t) (k : ∀ c o, c = x ∨ c = m ∨ c ∈ bs → H c = some o → H' c = some o) : GoAt G H' x dx m sts bs ds t :=
  ⟨⟨k _ _ (.inl rfl) h.st.ob, k _ _ (.inr (.inl rfl)) h.st.mv.at', h.st.mv.len, h.st.mv.nda, fun i s c h1 h2 => k _ _ (.inr (.inr (List.mem_of_getElem? h2))) (h.st.mv.inn i s c h1 h2)⟩, h.mv⟩
theorem ok_lentR {g : Addr} {fd : FuncData} (F : Fun K "_law_lent_right" "_law_lent_right" sLentR g fd) (Z : Blp mg) (T : GTy K mg G) (M : LrC P w K mg base G) : FnOk P w K mg base CX0 10 g fd ["_law_moves"] spLentR := by
  refine F.ok scLentR (fun vs H Q E h => ?_) (fun cdv A outer s H vs Q E hr h => ?_)
  · obtain ⟨a, sts, ds, t, rfl, _⟩ := h
    rfl
  · obtain ⟨a, sts, ds, t, rfl, mt, mv, k⟩ := h
    have nd := scLentR.nd
    refine ⟨_, pss_cons (ps_set (i := 1) nd rfl (Or.inl rfl) (pe_c M.lent hr rfl (pa_cons (pv 0) (pa_nil))))
      (pss_cons (ps_par (i := 2) (j := 3) rfl nd rfl rfl (by decide) rfl rfl (pa_cons (pe_store M.gmk T.mgG hr rfl (pa_cons (pv 1) (pa_nil))) (pa_cons (pe_callB (cr_sortD rfl) (by rfl) Z.sorted (by decide +kernel) (pa_cons (pv 0) (pa_nil))) (pa_nil))) (by rfl))
      (pss_cons (ps_set (i := 4) nd rfl (Or.inr rfl) (pe_callB (cr_sortD rfl) (by rfl) Z.sorted (by decide +kernel) (pa_cons (pe_dget (hu_of hr) (pv 0) (pe_ix ix_list (pv 3) pe_int (fun _ _ => rfl)) (fun _ _ => rfl)) (pa_nil))))
      (pss_cons (ps_for PassesOwn.never rfl (pi_list (pv 3)) (pg_name (i := 5) nd rfl (Or.inl rfl)) (pss_cons (ps_dput (hu_of hr) (pe_dget (hu_of hr) (pv 1) (pv 5) (fun _ _ => rfl)) (pe_ix ix_list (pv 4) pe_int (fun _ _ => rfl)) (pe_ix ix_list (pv 3) (pe_un un_neg pe_int) (fun _ _ => rfl)) rfl)
      (pss_one (ps_expr (pe_dclear (pe_dget (hu_of hr) (pv 1) (pv 5) (fun _ _ => rfl)))))))
      (pss_cons (ps_expr (pe_dclear (pv 1)))
      (pss_cons (ps_set (i := 6) nd rfl (Or.inl rfl) (pe_lst (pa_cons (pe_c M.ord hr rfl (pa_cons (pv 0) (pa_nil))) (pa_cons (pv 3) (pa_cons (pv 4) (pa_cons (pe_callTy (cr_dictP rfl) (by rfl) Z.dict (by decide +kernel) (pa_cons (pe_lc (own := [("_law_state", 5)]) (g := gName 5) (tt := tYes) (te := tTup (tCons (tVar 5) (tCons (tCall spLedT [] E0 (tCons (tVar 0) (tCons (tVar 5) (tCons (tVar 4) (tNil))))) (tNil)))) rfl nd (pi_list (pv 3)) (blkOk_by (own := [("_law_state", 5)]) (N := nLentR) (sc := defScope sLentR) (by decide +kernel)) (fun _ _ _ _ _ => pg_name (i := 5) nd rfl (Or.inl rfl)) (fun _ _ _ _ _ => pts_nil) (fun _ _ _ _ _ => pe_tup (pa_cons (pv 5) (pa_cons (pe_c M.bhL hr rfl (pa_cons (pv 0) (pa_cons (pv 5) (pa_cons (pv 4) (pa_nil))))) (pa_nil))))) (pa_nil))) (pa_nil)))))))
      (pss_one (ps_ret (pe_and (pe_c M.exD hr rfl (pa_cons (pe_lst (pa_cons (pe_m0 M.mov T.cl hr (pv 2)) (pa_cons (pe_m0 M.sta T.cl hr (pv 2)) (pa_cons (pe_m0 M.ded T.cl hr (pv 2)) (pa_cons (pe_c M.bal hr rfl (pa_cons (pv 2) (pa_cons (pv 4) (pa_nil)))) (pa_nil)))))) (pa_cons (pv 6) (pa_nil)))) (pe_one (pe_cmpR (OwQ.op_eqOwn M.eqg (hr.mono (by decide))) (pv 2) (pe_c M.sto hr rfl (pa_cons (pv 0) (pa_nil))) (nomark _))))))))))), ?_⟩
    have few := mv.few
    have dfew := mv.dfew
    have nst := mv.asc.nodup
    have spos : 0 < sts.length := List.length_pos_iff.mpr mv.ne
    have dpos : 0 < ds.length := List.length_pos_iff.mpr mv.dne
    refine ⟨_, rfl, a, sts, ds, t, rfl, mt, mv, fun q H1 s1 hq0 mf => ?_⟩
    refine at_name (σ' := [some (.ref a), some (.ref q), none, none, none, none, none]) rfl ?_
    obtain ⟨ssl, as, rwl, ml, pl, kl, fr⟩ := id mf
    -- the store of the lent dict
    refine ⟨_, rfl, fun x dx hx0 hdx0 ndx => mk_storeG mf.toT mv hx0 hdx0 ndx fun m bs H2 gx hm0 hb0 s2 => ⟨rfl, ?_⟩⟩
    have mt2 := (mt.mono s1).mono s2
    obtain ⟨ss0, as0, row0, m0, pm0, kt0⟩ := id mt2
    refine ⟨_, rfl, a, _, ss0, rfl, .inl m0.at', m0.keys, by rw [pm0.length_eq]; exact few, fun ys sq pq so hsq0 => ?_⟩
    have ey : sts = ys := ((sortedS_asc so (pq.nodup_iff.mpr (pm0.nodup_iff.mpr nst))).eq mv.asc (pq.trans pm0)).symm
    subst ey
    have s3 := Same.new (H := H2) (o := .lst (sts.map V.str)) hsq0
    have hsq : upd H2 sq (.lst (sts.map V.str)) sq = _ := upd_same
    generalize upd H2 sq (.lst (sts.map V.str)) = H3 at s3 hsq ⊢
    refine ⟨_, _, rfl, ?_⟩
    refine at_slots (σ' := [some (.ref a), some (.ref q), some (.ref x), some (.ref sq), none, none, none]) rfl ?_
    obtain ⟨z0, ez0⟩ : ∃ z0, sts[0]? = some z0 := ⟨_, List.getElem?_eq_getElem spos⟩
    have mz0 := List.mem_of_getElem? ez0
    have mt3 := mt2.mono s3
    obtain ⟨ss1, as1, row1, ha, hka, pm1, kt1, gt1⟩ := mt3.at mv
    obtain ⟨c0, nc0, vc0, hc0⟩ := gt1 z0 mz0
    obtain ⟨k1, k2⟩ := kt1 z0 mz0
    have dg := DGet.k (k := Sum.inr z0) ha
    rw [vc0] at dg
    refine ⟨_, rfl, _, rfl, sq, _, 0, _, rfl, rfl, SqL.of hsq, atI_nat (j := 0) (by rw [List.getElem?_map, ez0]; rfl), a, _, rfl, dg, c0, dkv (row1 z0), keysD (row1 z0), rfl, .inl hc0, dkv_keys _, by rw [k1.length_eq]; omega, fun ys dq pqd so hdq0 => ?_⟩
    have ey : ds = ys := ((sortedS_asc so (pqd.nodup_iff.mpr (k1.nodup_iff.mpr mv.dsc.nodup))).eq mv.dsc (pqd.trans k1)).symm
    subst ey
    have s4 := Same.new (H := H3) (o := .lst (ds.map V.str)) hdq0
    have hdq : upd H3 dq (.lst (ds.map V.str)) dq = _ := upd_same
    generalize upd H3 dq (.lst (ds.map V.str)) = H4 at s4 hdq ⊢
    refine at_name (σ' := [some (.ref a), some (.ref q), some (.ref x), some (.ref sq), some (.ref dq), none, none]) rfl ?_
    have s24 : L2.Same H2 H4 := s3.trans s4
    have s14 : L2.Same H1 H4 := s2.trans s24
    have hsq4 := s4 _ _ hsq
    have gx4 := gx.mono s24
    have nqas : q ∉ as := (List.nodup_cons.mp ml.nda).1
    have hq4 : H4 q = some (.dK (mvK ssl as)) := s14 _ _ ml.at'
    have as1 : ∀ b ∈ as, ∃ kvs, H1 b = some (.dK kvs) ∧ kvs.length < 100 := fun b hb => by
      obtain ⟨i, hi⟩ := List.mem_iff_getElem?.mp hb
      obtain ⟨z, ez⟩ : ∃ z, ssl[i]? = some z := ⟨_, List.getElem?_eq_getElem (by rw [← ml.len]; exact (List.getElem?_eq_some_iff.mp hi).1)⟩
      refine ⟨_, ml.inn i z b ez hi, ?_⟩
      unfold dkv
      rw [List.length_map, ← keysD_len, (kl z (pl.mem_iff.mp (List.mem_of_getElem? ez))).1.length_eq]
      omega
    have off : ∀ {c : Addr}, H1 c = none → c ∉ as ∧ c ≠ q := fun {c} hc => by
      refine ⟨fun hm => ?_, fun e => ?_⟩
      · obtain ⟨kvs, h, _⟩ := as1 c hm
        rw [hc] at h; cases h
      · rw [e, ml.at'] at hc; cases hc
    obtain ⟨d0, ed0⟩ : ∃ d0, ds[0]? = some d0 := ⟨_, List.getElem?_eq_getElem dpos⟩
    obtain ⟨zl, ezl⟩ : ∃ zl, sts[sts.length - 1]? = some zl := ⟨_, List.getElem?_eq_getElem (by omega)⟩
    have hq1 : H1 q = some (.dK (mvK ssl as)) := ml.at'
    have osq := off (s2.free hsq0)
    have odq := off ((s2.trans s3).free hdq0)
    have lst1 : atI (sts.map V.str) (-1) = some (.str zl) := atI_lastS (by rw [List.length_map, List.getElem?_map, ezl]; rfl)
    refine ⟨_, rfl, sq, rfl, ⟨_, SqL.of hsq4⟩, ?_⟩
    refine for_list (K := K) (a := sq) (xs := sts.map V.str) (fun i σ H' => ∃ x5, σ = [some (.ref a), some (.ref q), some (.ref x), some (.ref sq), some (.ref dq), x5, none] ∧ (∀ c o, c ∉ as → H4 c = some o → H' c = some o) ∧ ∀ b ∈ as, ∃ kvs, H' b = some (.dK kvs) ∧ kvs.length < 100) ?_ ?_ ?_ ?_
    · exact ⟨_, rfl, fun _ _ _ e => e, fun b hb => let ⟨kvs, h, l⟩ := as1 b hb; ⟨kvs, s14 _ _ h, l⟩⟩
    · rintro i σ H' _ ⟨x5, rfl, h, _⟩
      exact SqL.of (h _ _ osq.1 hsq4)
    · rintro i v σ H5 hx ⟨x5, rfl, h5, hb5⟩
      obtain ⟨z, ez, rfl⟩ := str_get hx
      have mz := List.mem_of_getElem? ez
      refine at_name (σ' := [some (.ref a), some (.ref q), some (.ref x), some (.ref sq), some (.ref dq), some (.str z), none]) rfl ?_
      obtain ⟨b, vb, _, mb⟩ := mvK_get ml.inns (pl.nodup_iff.mpr nst) (pl.mem_iff.mpr mz)
      have dg5 : ∀ {H' : Hp}, H' q = some (.dK (mvK ssl as)) → DGet H' q (.str z) (some (.ref b)) := fun {H'} h => by
        have := DGet.k (k := Sum.inr z) h
        rw [vb] at this
        exact this
      have hq5 := h5 _ _ nqas hq4
      have nbq : q ≠ b := fun e => nqas (e ▸ mb)
      obtain ⟨kvs, hb, lb⟩ := hb5 b mb
      refine ⟨_, rfl, _, rfl, sq, _, _, _, rfl, rfl, SqL.of (h5 _ _ osq.1 hsq4), lst1, _, rfl, _, rfl, q, _, rfl, dg5 hq5, _, rfl, dq, _, 0, _, rfl, rfl, SqL.of (h5 _ _ odq.1 hdq), atI_nat (j := 0) (by rw [List.getElem?_map, ed0]; rfl), b, _, rfl, DPut.k (k := Sum.inr d0) hb (small1000 (by omega)), ?_⟩
      refine ⟨_, rfl, _, rfl, q, _, rfl, dg5 ((upd_ne nbq).trans hq5), .inr (.inr (.inl ⟨rfl, .inl ⟨_, upd_same⟩⟩)), b, _, rfl, rfl, upd_same, ?_⟩
      refine ⟨_, rfl, fun c o nc e => ?_, fun c hc => ?_⟩
      · have ncb : c ≠ b := fun e => nc (e ▸ mb)
        rw [upd_ne ncb, upd_ne ncb]
        exact h5 _ _ nc e
      · by_cases e : c = b
        · rw [e]
          exact ⟨[], upd_same, by decide⟩
        · obtain ⟨k2, h2, l2⟩ := hb5 c hc
          exact ⟨k2, (upd_ne e).trans ((upd_ne e).trans h2), l2⟩
    rintro σ H5 ⟨x5, rfl, h5, _⟩
    have hq5 := h5 _ _ nqas hq4
    refine ⟨_, rfl, .inr (.inr (.inl ⟨rfl, .inl ⟨_, hq5⟩⟩)), q, _, rfl, rfl, hq5, ?_⟩
    have rel : ∀ c o, c ∉ as ∧ c ≠ q → H4 c = some o → (upd H5 q (.dK [])) c = some o := fun c o nc e => (upd_ne nc.2).trans (h5 _ _ nc.1 e)
    generalize upd H5 q (.dK []) = H6 at rel ⊢
    have s06 : L2.Same H H6 := fun c o e => by
      refine rel c o ⟨fun hm => ?_, fun h => ?_⟩ (s14 _ _ (s1 _ _ e))
      · have := fr c hm
        rw [e] at this; cases this
      · rw [h, hq0] at e; cases e
    have mt6 := mt.mono s06
    have gx6 : GoAt G H6 x dx m sts bs ds t := gx4.keep fun c o hc e => rel c o (off (by
      rcases hc with rfl | rfl | hc
      · exact hx0
      · exact hm0
      · exact hb0 c hc)) e
    have ge6 : GoE G H6 x sts ds t := ⟨dx, m, bs, gx6⟩
    have hsq6 := rel _ _ osq hsq4
    have hdq6 := rel _ _ odq hdq
    clear rel h5 hq5 gx4 hsq4 hdq hq4 as1
    -- what is due
    refine ⟨_, rfl, a, sts, ds, t, rfl, mt6, mv, fun o1 bs2 H7 s7 ho10 _ mo1 => ?_⟩
    refine ⟨_, rfl, _, rfl, ?_⟩
    have mt7 := mt6.mono s7
    have hsq7 := s7 _ _ hsq6
    have hdq7 := s7 _ _ hdq6
    obtain ⟨ssD, asD, rwD, mD, pD, kD⟩ := id mt7
    show tCB (rDP K) (tCons (tLc (iList K (tVar 3)) (gName 5) tYes _ [5]) tNil) _ _ _
    refine rdS_list (K := K) (xs := sts) (key := fun o => o) (val := fun z => .str (List.foldl t z ds)) (fun _ H' => L2.Same H7 H') (by omega) ?_ ?_ ?_
    · intro R hR
      exact ⟨_, rfl, hR sq H7 hsq7 (fun _ _ e => e)⟩
    · intro l z J1 J2 R hz j1 j2 kR
      have j02 : L2.Same H7 J2 := L2.Same.trans j1 j2
      refine at_name (σ' := [some (.ref a), some (.ref q), some (.ref x), some (.ref sq), some (.ref dq), some (.str z), none]) rfl ⟨rfl, ?_⟩
      have mJ := mD.mono j02
      exact ⟨_, rfl, _, rfl, _, rfl, _, rfl, a, ssD, asD, rwD, sts, ds, t, z, dq, ds, rfl, .inl mJ.at', mJ.inns, pD, kD, mv, hz, j02 _ _ hdq7, fun _ h => h, (by show 2 ≤ sizeLine; decide), fun tq htq0 => kR tq _ (Same.new htq0) upd_same⟩
    intro dd l J1 H8 j1 j2 hdd0 hdd
    rw [mergeK_strs nst] at hdd
    have s8 : L2.Same H7 H8 := L2.Same.trans j1 j2
    have hdd8 : H8 dd = some (.dK (dkv (sts.map fun s => (s, List.foldl t s ds)))) := by rw [hdd]; unfold dkv; rw [List.map_map]; rfl
    clear j1 j2 hdd hdd0
    refine ⟨(by show 4 ≤ sizeLine; decide), fun l2 hl20 => ?_⟩
    have s9 := Same.new (H := H8) (o := .lst [.ref o1, .ref sq, .ref dq, .ref dd]) hl20
    have hl2 : upd H8 l2 (.lst [.ref o1, .ref sq, .ref dq, .ref dd]) l2 = _ := upd_same
    generalize upd H8 l2 (.lst [.ref o1, .ref sq, .ref dq, .ref dd]) = H9 at s9 hl2 ⊢
    refine at_name (σ' := [some (.ref a), some (.ref q), some (.ref x), some (.ref sq), some (.ref dq), x5, some (.ref l2)]) rfl ?_
    have s69 : L2.Same H6 H9 := s7.trans (s8.trans s9)
    have ge9 := ge6.mono s69
    have ob9 := s69 _ _ gx6.st.ob
    have s79 : L2.Same H7 H9 := s8.trans s9
    have mo9 := mo1.mono s79
    -- as told
    refine ⟨_, rfl, x, dx, _, rfl, ob9, gflds_no _ (by decide +kernel), x, sts, _, t, rfl, ge9, fun q1 bs1 T1 u1 hq10 _ mq1 => ?_⟩
    refine ⟨_, rfl, x, dx, _, rfl, u1 _ _ ob9, gflds_no _ (by decide +kernel), x, sts, _, t, rfl, ge9.mono u1, fun q2 T2 u2 hq20 hq2 => ?_⟩
    refine ⟨_, rfl, x, dx, _, rfl, u2 _ _ (u1 _ _ ob9), gflds_no _ (by decide +kernel), x, sts, _, t, rfl, (ge9.mono u1).mono u2, fun q3 T3 u3 hq30 hq3 => ?_⟩
    have u03 : L2.Same H9 T3 := u1.trans (u2.trans u3)
    refine ⟨_, rfl, _, rfl, x, dq, sts, ds, t, ds, rfl, ge9.mono u03, u03 _ _ (s79 _ _ hdq7), by omega, fun _ h => h, fun q4 T4 u4 hq40 hq4 => ?_⟩
    refine ⟨(by show 4 ≤ sizeLine; decide), fun l1 hl10 => ?_⟩
    have u5 := Same.new (H := T4) (o := .lst [.ref q1, .ref q2, .ref q3, .ref q4]) hl10
    have hl1 : upd T4 l1 (.lst [.ref q1, .ref q2, .ref q3, .ref q4]) l1 = _ := upd_same
    generalize upd T4 l1 (.lst [.ref q1, .ref q2, .ref q3, .ref q4]) = T5 at u5 hl1 ⊢
    have u35 : L2.Same T3 T5 := u4.trans u5
    have u25 : L2.Same T2 T5 := u3.trans u35
    have u15 : L2.Same T1 T5 := u2.trans u25
    have u05 : L2.Same H9 T5 := u1.trans u15
    have nqo : q1 ≠ o1 := fun e => by
      have := mo9.at'
      rw [← e, hq10] at this; cases this
    have nkD : (keysD (sts.map fun s => (s, List.foldl t s ds))).Nodup := by
      have : keysD (sts.map fun s => (s, List.foldl t s ds)) = sts := by
        unfold keysD
        rw [List.map_map]; exact List.map_id _
      rw [this]; exact nst
    have alk : AlikeD 8 T5 (.ref l1) (.ref l2) := .inr (.inl ⟨l1, l2, _, _, rfl, rfl, hl1, u05 _ _ hl2, by show 4 ≤ 100; decide, .cons (alikeD_mv 3 (mq1.mono u15) (mo9.mono u05) nqo nst mv.rowsW mv.rok) (.cons (.inl (alike_strs 5 (u25 _ _ hq2) (u05 _ _ (s79 _ _ hsq7)) mv.rowsW)) (.cons (.inl (alike_strs 5 (u35 _ _ hq3) (u05 _ _ (s79 _ _ hdq7)) (by omega))) (.cons (.inl (alike_dkv 4 (u5 _ _ hq4) (u05 _ _ (s9 _ _ hdd8)) nkD (by rw [List.length_map]; omega))) .nil)))⟩)
    refine ⟨_, rfl, .ref l1, .ref l2, rfl, alk, fun T7 u7 => ⟨_, rfl, iteT ?_⟩⟩
    have s07 : L2.Same H6 T7 := s69.trans (u05.trans u7)
    refine ⟨_, rfl, _, rfl, a, sts, ds, t, rfl, mt6.mono s07, mv, fun x2 T8 u8 hx20 gx2 => ?_⟩
    have s08 := s07.trans u8
    obtain ⟨dx2, m2, b2, g2⟩ := id gx2
    refine ⟨x, dx, _, _, rfl, s08 _ _ gx6.st.ob, T.ty g2.st.ob, M.nf, x, .ref x2, _, _, _, rfl, ge6.mono s08, .inl ⟨x2, _, _, _, rfl, gx2, _, rfl, ?_⟩⟩
    rw [sameG_self mv, if_neg Bool.false_ne_true]
    exact k _ (s06.trans s08)
end
end KT
set_option Elab.async false
set_option linter.all false
set_option maxRecDepth 100000
set_option maxHeartbeats 4000000
set_option pp.maxSteps 900
namespace KT
open PySem L2 PyProof.Rows DTp TxS DKq
section
variable {sts ds : List Str} {t : Str → Str → Str}
theorem str_dec (a b : Str) : decide (V.str a = V.str b) = decide (a = b) := decide_eq_decide.mpr ⟨fun h => V.str.inj h, fun h => by rw [h]⟩
theorem sameG_set (mv : MV sts ds t) {z o y : Str} (hz : z ∈ sts) (ho : o ∈ ds) : sameG sts ds t sts ds (setT t z o y) = decide (t z o = y) := by
  by_cases e : t z o = y
  · rw [decide_eq_true e]
    have : setT t z o y = t := by
      funext s' o'
      unfold setT
      by_cases h : s' = z ∧ o' = o
      · rw [if_pos h, h.1, h.2, e]
      · rw [if_neg h]
    rw [this]
    exact sameG_self mv
  · rw [decide_eq_false e]
    unfold sameG
    refine Bool.eq_false_iff.mpr fun h => ?_
    obtain ⟨_, h⟩ := Bool.and_eq_true_iff.mp h
    obtain ⟨_, h⟩ := Bool.and_eq_true_iff.mp (List.all_eq_true.mp h z hz)
    obtain ⟨_, h⟩ := (sameK_iff (by rw [rowT_keys]; exact mv.dsc.nodup) (by rw [rowT_keys]; exact mv.dsc.nodup)).mp h
    have m := h (o, t z o) (List.mem_map.mpr ⟨o, ho, rfl⟩)
    obtain ⟨o', _, h2⟩ := List.mem_map.mp m
    have e1 : o' = o := congrArg Prod.fst h2
    have e2 : setT t z o y z o' = t z o := congrArg Prod.snd h2
    rw [e1] at e2
    unfold setT at e2
    rw [if_pos ⟨rfl, rfl⟩] at e2
    exact e e2.symm
theorem sameG_len {sts2 ds2 : List Str} {t2 : Str → Str → Str} (h : sts.length ≠ sts2.length) : sameG sts ds t sts2 ds2 t2 = false := by
  unfold sameG
  rw [beq_eq_false_iff_ne.mpr h, Bool.false_and]
theorem sameG_rows {ds2 : List Str} {t2 : Str → Str → Str} (ne : sts ≠ []) (h : ds.length ≠ ds2.length) : sameG sts ds t sts ds2 t2 = false := by
  unfold sameG
  refine Bool.eq_false_iff.mpr fun e => ?_
  obtain ⟨_, e⟩ := Bool.and_eq_true_iff.mp e
  obtain ⟨z, hz⟩ := List.exists_mem_of_ne_nil _ ne
  obtain ⟨_, e⟩ := Bool.and_eq_true_iff.mp (List.all_eq_true.mp e z hz)
  unfold sameK at e
  obtain ⟨e, _⟩ := Bool.and_eq_true_iff.mp e
  have := eq_of_beq e
  unfold dkv rowT at this
  rw [List.length_map, List.length_map, List.length_map, List.length_map] at this
  exact h this
theorem spare_two {ws : List Str} (h : ws.length ≤ 24) : 2 ≤ (spareW ws).length := by
  have e1 : octs.length = (spareW ws).length + (octs.filter fun x => !decide (x ∉ ws)).length := by
    unfold spareW
    exact filter_split _ _
  have e2 : (octs.filter fun x => !decide (x ∉ ws)).length ≤ ws.length := List.Nodup.length_le_of_subset (octs_nodup.filter _) fun x hx => by
    obtain ⟨_, b⟩ := List.mem_filter.mp hx
    simpa using b
  rw [octs_len] at e1
  omega
def wideS (t : Str → Str → Str) (more z : Str) (s o : Str) : Str := if s = more then z else t s o
theorem wideMV (mv : MV sts ds t) {more z : Str} (w : Wd more) (nm : more ∉ sts) (hz : z ∈ sts) (few : sts.length < 62) : MV (ascOf (sts ++ [more])) ds (wideS t more z) := by
  have pm := ascOf_perm (sts ++ [more])
  have nd : (sts ++ [more]).Nodup := List.nodup_append.mpr ⟨mv.asc.nodup, by simp, fun a ha b hb e => nm (by rw [List.mem_singleton.mp hb] at e; rw [← e]; exact ha)⟩
  have mem : ∀ s, s ∈ ascOf (sts ++ [more]) ↔ s ∈ sts ∨ s = more := fun s => by rw [pm.mem_iff, List.mem_append, List.mem_singleton]
  exact {
    asc := ascOf_asc nd
    ne := fun e => by have := pm.length_eq; rw [e] at this; simp at this
    few := by rw [pm.length_eq, List.length_append, List.length_singleton]; omega
    wd := fun s hs => ((mem s).mp hs).elim (mv.wd s) fun e => by rw [e]; exact w
    dsc := mv.dsc
    dne := mv.dne
    dfew := mv.dfew
    dwd := mv.dwd
    cl := fun s hs o ho => by
      unfold wideS
      refine (mem _).mpr (.inl ?_)
      by_cases e : s = more
      · rw [if_pos e]; exact hz
      · rw [if_neg e]; exact mv.cl s (((mem s).mp hs).resolve_right e) o ho }
def longS (t : Str → Str → Str) (sp : Str) (s o : Str) : Str := if o = sp then s else t s o
theorem longMV (mv : MV sts ds t) {sp : Str} (w : Wd sp) (nm : sp ∉ ds) (few : ds.length < 60) : MV sts (ascOf (ds ++ [sp])) (longS t sp) := by
  have pm := ascOf_perm (ds ++ [sp])
  have nd : (ds ++ [sp]).Nodup := List.nodup_append.mpr ⟨mv.dsc.nodup, by simp, fun a ha b hb e => nm (by rw [List.mem_singleton.mp hb] at e; rw [← e]; exact ha)⟩
  have mem : ∀ s, s ∈ ascOf (ds ++ [sp]) ↔ s ∈ ds ∨ s = sp := fun s => by rw [pm.mem_iff, List.mem_append, List.mem_singleton]
  exact {
    asc := mv.asc
    ne := mv.ne
    few := mv.few
    wd := mv.wd
    dsc := ascOf_asc nd
    dne := fun e => by have := pm.length_eq; rw [e] at this; simp at this
    dfew := by rw [pm.length_eq, List.length_append, List.length_singleton]; omega
    dwd := fun s hs => ((mem s).mp hs).elim (mv.dwd s) fun e => by rw [e]; exact w
    cl := fun s hs o ho => by
      unfold longS
      by_cases e : o = sp
      · rw [if_pos e]; exact hs
      · rw [if_neg e]; exact mv.cl s hs o (((mem o).mp ho).resolve_right e) }
theorem wideMvT (mv : MV sts ds t) {H H' : Hp} {a q nd : Addr} {ss : List Str} {as : List Addr} {row : Str → List (Str × Str)} {more z : Str} (m : MvAt H a ss as row) (p : ss.Perm sts) (k : ∀ s ∈ sts, (keysD (row s)).Perm ds ∧ ∀ o ∈ ds, kof (row s) o = t s o) (nm : more ∉ sts) (hz : z ∈ sts)
    (s : L2.Same H H') (hq0 : H q = none) (hn0 : H nd = none) (hn : H' nd = some (.dK (dkv (rowT (keysD (row z)) (fun _ _ => z) more)))) (hq : H' q = some (.dK (mvK (ss ++ [more]) (as ++ [nd])))) : MvT H' q (ascOf (sts ++ [more])) ds (wideS t more z) := by
  have pm := ascOf_perm (sts ++ [more])
  have inH : ∀ c ∈ as, H c ≠ none := fun c hc e => by
    obtain ⟨i, hi⟩ := List.mem_iff_getElem?.mp hc
    obtain ⟨u, eu⟩ : ∃ u, ss[i]? = some u := ⟨_, List.getElem?_eq_getElem (by rw [← m.len]; exact (List.getElem?_eq_some_iff.mp hi).1)⟩
    have := m.inn i u c eu hi
    rw [e] at this; cases this
  have nqn : q ≠ nd := fun e => by rw [e, hn] at hq; injection hq with hq; injection hq with hq; have := congrArg (List.map Prod.snd) hq; exact absurd (List.mem_map.mpr ⟨(Sum.inr more, V.ref nd), List.mem_map.mpr ⟨(more, nd), by rw [List.zip_append m.len.symm]; exact List.mem_append.mpr (.inr (List.mem_singleton.mpr rfl)), rfl⟩, rfl⟩) (fun h2 : V.ref nd ∈ (mvK (ss ++ [more]) (as ++ [nd])).map Prod.snd => by
    rw [← this] at h2
    obtain ⟨p1, h3, h4⟩ := List.mem_map.mp h2
    obtain ⟨p2, _, rfl⟩ := List.mem_map.mp h3
    cases h4)
  refine ⟨ss ++ [more], as ++ [nd], fun s => if s = more then rowT (keysD (row z)) (fun _ _ => z) more else row s, ⟨hq, by rw [List.length_append, List.length_append, m.len]; rfl, ?_, fun i u c h1 h2 => ?_⟩, ?_, fun u hu => ?_⟩
  · rw [← List.cons_append]
    refine List.nodup_append.mpr ⟨List.nodup_cons.mpr ⟨fun hm => inH q hm hq0, (List.nodup_cons.mp m.nda).2⟩, by simp, fun c hc d hd e => ?_⟩
    rw [List.mem_singleton.mp hd] at e
    rcases List.mem_cons.mp hc with h | h
    · exact nqn (by rw [← h]; exact e)
    · exact inH c h (by rw [e]; exact hn0)
  · by_cases hi : i < ss.length
    · rw [List.getElem?_append_left hi] at h1
      rw [List.getElem?_append_left (by rw [m.len]; exact hi)] at h2
      have ne : u ≠ more := fun e => nm (by rw [← e]; exact p.mem_iff.mp (List.mem_of_getElem? h1))
      rw [if_neg ne]
      exact s _ _ (m.inn i u c h1 h2)
    · have hlt := (List.getElem?_eq_some_iff.mp h1).1
      rw [List.length_append, List.length_singleton] at hlt
      have ei : i = ss.length := by omega
      rw [List.getElem?_append_right (by omega), ei, Nat.sub_self] at h1
      rw [List.getElem?_append_right (by rw [m.len]; omega), ei, m.len, Nat.sub_self] at h2
      obtain rfl : more = u := Option.some.inj h1
      obtain rfl : nd = c := Option.some.inj h2
      rw [if_pos rfl]
      exact hn
  · exact (List.Perm.append_right _ p).trans pm.symm
  · dsimp only
    unfold wideS
    by_cases e : u = more
    · rw [if_pos e, rowT_keys]
      obtain ⟨k1, _⟩ := k z hz
      refine ⟨k1, fun o ho => ?_⟩
      rw [if_pos e, kof_rowT (k1.nodup_iff.mpr mv.dsc.nodup) _ _ (k1.mem_iff.mpr ho)]
    · rw [if_neg e]
      have hu2 : u ∈ sts := by
        rw [pm.mem_iff, List.mem_append, List.mem_singleton] at hu
        exact hu.resolve_right e
      obtain ⟨k1, k2⟩ := k u hu2
      refine ⟨k1, fun o ho => ?_⟩
      rw [if_neg e]
      exact k2 o ho
theorem longRow (mv : MV sts ds t) {row : List (Str × Str)} {s sp : Str} (k1 : (keysD row).Perm ds) (k2 : ∀ o ∈ ds, kof row o = t s o) (nm : sp ∉ ds) : (keysD (row ++ [(sp, s)])).Perm (ascOf (ds ++ [sp])) ∧ ∀ o ∈ ascOf (ds ++ [sp]), kof (row ++ [(sp, s)]) o = longS t sp s o := by
  have pm := ascOf_perm (ds ++ [sp])
  have ek : keysD (row ++ [(sp, s)]) = keysD row ++ [sp] := by unfold keysD; rw [List.map_append]; rfl
  have nk : (keysD row).Nodup := k1.nodup_iff.mpr mv.dsc.nodup
  have nk2 : (keysD (row ++ [(sp, s)])).Nodup := by
    rw [ek]
    exact List.nodup_append.mpr ⟨nk, by simp, fun a ha b hb e => nm (by rw [List.mem_singleton.mp hb] at e; rw [← e]; exact k1.mem_iff.mp ha)⟩
  refine ⟨by rw [ek]; exact (List.Perm.append_right _ k1).trans pm.symm, fun o ho => ?_⟩
  rw [pm.mem_iff, List.mem_append, List.mem_singleton] at ho
  unfold longS
  by_cases e : o = sp
  · rw [if_pos e, e]
    exact kof_mem (p := (sp, s)) nk2 (List.mem_append.mpr (.inr (List.mem_singleton.mpr rfl)))
  · rw [if_neg e]
    have ho2 := ho.resolve_right e
    obtain ⟨p, hp, e2⟩ := List.mem_map.mp (k1.mem_iff.mpr ho2)
    have h1 := kof_mem nk hp
    have h2 := kof_mem nk2 (List.mem_append.mpr (.inl hp))
    rw [e2] at h1 h2
    rw [h2, ← h1, k2 o ho2]
end
end KT
set_option Elab.async false
set_option linter.all false
set_option maxRecDepth 100000
set_option maxHeartbeats 4000000
set_option pp.maxSteps 900
namespace KT
open PySem L2 PyProof.Rows DTp TxS DKq
section
variable {P : Program} {w : World} {K : PySem.W.Frag} {mg : Str → Option Value} {base : Heap} {G : Addr}
structure ErC (P : Program) (w : World) (K : PySem.W.Frag) (mg : Str → Option Value) (base : Heap) (G : Addr) : Prop where
  one : Cee P w K mg base 3 "_law_one_of" ["_law_purse_here", "_law_some"] spOneOf
  same : Cee P w K mg base 4 "_law_same" ["_law_thing"] (spSame 3)
  spa : Cee P w K mg base 1 "_law_spare_words" ["_law_words_here"] spSpare
  gmk : GMk P w K mg base G
  exD : Cee P w K mg base 9 "_law_exact" ["_law_mine", "_law_theirs"] (spExactD 8)
  sto : Cee P w K mg base 6 "_law_store" ["_law_moves"] (spSto G)
  lr : Cee P w K mg base 10 "_law_lent_right" ["_law_moves"] spLentR
  eqg : OwQ.EqC P w K mg base 1 G (spGEq K G)
  nf : PySem.W.notFirst K G (.ref G) = true
  nfd : PySem.W.notFirst K G (.type "dict") = true
  nfi : PySem.W.notFirst K G (.type "int") = true
  kd : PySem.W.kitOne K (.type "dict") (.ref G) = some false
  ki : PySem.W.kitOne K (.type "int") (.ref G) = some false
def spEqR (G : Addr) : Sp := fun vs H Q _ => ∃ (p a x : Addr) (B : Int) (sts ds : List Str) (t : Str → Str → Str), vs = [.ref p, .ref a, .ref x] ∧ PurseAt H p B ∧ 0 ≤ B ∧ B ≤ 900000 ∧ MvT H a sts ds t ∧ MV sts ds t ∧ GoE G H x sts ds t ∧ sts.length ≤ 8 ∧ ds.length ≤ 8 ∧ ∀ H', But p H H' → PurseAt H' p (B + 12) → Q (.bl true) H'
abbrev nEqR : List Str := ["_law_purse_here", "_law_moves", "_law_store_here", "_law_same_here", "_law_state", "_law_deed", "_law_late", "_law_bent", "_law_told", "_law_more", "_law_spare", "_law_wide", "_law_long", "_law_other", "_law_some"]
theorem scEqR : FnScope nEqR ["_law_purse_here", "_law_moves", "_law_store_here"] (defScope sEqR) := ⟨rfl, rfl, rfl, by decide +kernel, rfl, by decide +kernel, by decide +kernel⟩
theorem ok_eqR {g : Addr} {fd : FuncData} (F : Fun K "_law_equal_right" "_law_equal_right" sEqR g fd) (Z : Blp mg) (T : GTy K mg G) (M : ErC P w K mg base G) : FnOk P w K mg base CX0 11 g fd ["_law_purse_here", "_law_moves", "_law_store_here"] (spEqR G) := by
  refine F.ok scEqR (fun vs H Q E h => ?_) (fun cdv A outer s H vs Q E hr h => ?_)
  · obtain ⟨p, a, x, B, sts, ds, t, rfl, _⟩ := h
    rfl
  · obtain ⟨p, a, x, B, sts, ds, t, rfl, hP, b0, b9, mt, mv, gx, few, dfew, k⟩ := h
    have nd := scEqR.nd
    refine ⟨_, pss_cons (ps_asg (pe_tup (pa_cons (pe_c M.sto hr rfl (pa_cons (pv 1) (pa_nil))) (pa_cons (pe_c M.one hr rfl (pa_cons (pv 0) (pa_cons (pe_callB (cr_sortD rfl) (by rfl) Z.sorted (by decide +kernel) (pa_cons (pv 1) (pa_nil))) (pa_nil)))) (pa_nil)))) (pg_tup rfl (pgs_cons (pg_name (i := 3) nd rfl (Or.inl rfl)) (pgs_cons (pg_name (i := 4) nd rfl (Or.inr rfl)) pgs_nil))))
      (pss_cons (ps_par (i := 5) (j := 6) rfl nd rfl rfl (by decide) rfl rfl (pa_cons (pe_c M.one hr rfl (pa_cons (pv 0) (pa_cons (pe_callB (cr_sortD rfl) (by rfl) Z.sorted (by decide +kernel) (pa_cons (pe_dget (hu_of hr) (pv 1) (pv 4) (fun _ _ => rfl)) (pa_nil))) (pa_nil)))) (pa_cons (pe_c M.one hr rfl (pa_cons (pv 0) (pa_cons (pe_callB (cr_sortD rfl) (by rfl) Z.sorted (by decide +kernel) (pa_cons (pv 1) (pa_nil))) (pa_nil)))) (pa_nil))) (by rfl))
      (pss_cons (ps_set (i := 7) nd rfl (Or.inl rfl) (pe_c M.same hr rfl (pa_cons (pv 1) (pa_nil))))
      (pss_cons (ps_dput (hu_of hr) (pe_dget (hu_of hr) (pv 7) (pv 4) (fun _ _ => rfl)) (pv 5) (pv 6) rfl)
      (pss_cons (ps_set (i := 8) nd rfl (Or.inl rfl) (pe_lst (pa_cons (pe_cmpR (OwQ.op_eqOwn M.eqg (hr.mono (by decide))) (pv 2) (pv 3) (nomark _)) (pa_cons (pe_cmpR (OwQ.op_neOwn M.eqg (hr.mono (by decide)) (u2 hr.units)) (pv 2) (pv 3) (nomark _)) (pa_cons (pe_cmpR (OwQ.op_eqOwn M.eqg (hr.mono (by decide))) (pv 2) (pe_c M.sto hr rfl (pa_cons (pv 7) (pa_nil))) (nomark _)) (pa_cons (pe_cmpR (OwQ.op_eqOwn M.eqg (hr.mono (by decide))) (pv 2) (pv 1) (nomark _)) (pa_cons (pe_cmpR (OwQ.op_eqOwn M.eqg (hr.mono (by decide))) (pv 2) (pe_int) (nomark _)) (pa_nil))))))))
      (pss_cons (ps_if (pt_not (pt_val (pe_c M.exD hr rfl (pa_cons (pv 8) (pa_cons (pe_lst (pa_cons (pe_bl) (pa_cons (pe_bl) (pa_cons (pe_cmpR op_eq (pe_dget (hu_of hr) (pe_dget (hu_of hr) (pv 1) (pv 4) (fun _ _ => rfl)) (pv 5) (fun _ _ => rfl)) (pv 6) (nomark _)) (pa_cons (pe_bl) (pa_cons (pe_bl) (pa_nil))))))) (pa_nil)))))) (pss_one (ps_ret (pe_bl))) pss_nil)
      (pss_cons (ps_asg (pe_slice sl_list (pe_c M.spa hr rfl (pa_cons (pe_op op_cat (pe_callB (cr_sortD rfl) (by rfl) Z.sorted (by decide +kernel) (pa_cons (pv 1) (pa_nil))) (pe_callB (cr_sortD rfl) (by rfl) Z.sorted (by decide +kernel) (pa_cons (pe_dget (hu_of hr) (pv 1) (pv 4) (fun _ _ => rfl)) (pa_nil)))) (pa_nil))) po_none (po_some pe_int)) (pg_unl rfl (pgs_cons (pg_name (i := 9) nd rfl (Or.inl rfl)) (pgs_cons (pg_name (i := 10) nd rfl (Or.inr rfl)) pgs_nil))))
      (pss_cons (ps_set (i := 11) nd rfl (Or.inl rfl) (pe_callTy (cr_dictP rfl) (by rfl) Z.dict (by decide +kernel) (pa_cons (pe_op op_cat (LiI.pe_listItems rfl (pv 1) rfl Z.list (by decide +kernel)) (pe_lst (pa_cons (pe_tup (pa_cons (pv 9) (pa_cons (pe_callTy (cr_dictP rfl) (by rfl) Z.dict (by decide +kernel) (pa_cons (pe_lock (pe_lc (own := [("_law_some", 14)]) (g := gName 14) (tt := tYes) (te := tTup (tCons (tVar 14) (tCons (tVar 4) (tNil)))) rfl nd (pi_keys (pe_dget (hu_of hr) (pv 1) (pv 4) (fun _ _ => rfl))) (blkOk_by (own := [("_law_some", 14)]) (N := nEqR) (sc := defScope sEqR) (by decide +kernel)) (fun _ _ _ _ _ => pg_name (i := 14) nd rfl (Or.inl rfl)) (fun _ _ _ _ _ => pts_nil) (fun _ _ _ _ _ => pe_tup (pa_cons (pv 14) (pa_cons (pv 4) (pa_nil)))))) (pa_nil))) (pa_nil)))) (pa_nil)))) (pa_nil))))
      (pss_cons (ps_set (i := 12) nd rfl (Or.inl rfl) (pe_callTy (cr_dictP rfl) (by rfl) Z.dict (by decide +kernel) (pa_cons (pe_lock (pe_lc (own := [("_law_some", 14)]) (g := gName 14) (tt := tYes) (te := tTup (tCons (tVar 14) (tCons (tCB (rDP K) (tCons (tOp rCat (LiI.tListItems (tDGet (tVar 1) (tVar 14))) (tLst (tCons (tTup (tCons (tVar 10) (tCons (tVar 14) tNil))) tNil))) tNil)) tNil))) rfl nd (pi_keys (pv 1)) (blkOk_by (own := [("_law_some", 14)]) (N := nEqR) (sc := defScope sEqR) (by decide +kernel)) (fun _ _ _ _ _ => pg_name (i := 14) nd rfl (Or.inl rfl)) (fun _ _ _ _ _ => pts_nil) (fun _ _ _ _ _ => pe_tup (pa_cons (pv 14) (pa_cons (pe_callTy (cr_dictP rfl) (by rfl) Z.dict (by decide +kernel) (pa_cons (pe_op op_cat (LiI.pe_listItems rfl (pe_dget (hu_of hr) (pv 1) (pv 14) (fun _ _ => rfl)) rfl Z.list (by decide +kernel)) (pe_lst (pa_cons (pe_tup (pa_cons (pv 10) (pa_cons (pv 14) (pa_nil)))) (pa_nil)))) (pa_nil))) (pa_nil)))))) (pa_nil))))
      (pss_cons (ps_for PassesOwn.never rfl (pi_tup (pe_tup (pa_cons (pe_store M.gmk T.mgG hr rfl (pa_cons (pv 11) (pa_nil))) (pa_cons (pe_store M.gmk T.mgG hr rfl (pa_cons (pv 12) (pa_nil))) (pa_nil))))) (pg_name (i := 13) nd rfl (Or.inl rfl)) (pss_one (ps_if (pt_cut <| PW.pt (pw_or (pt_cmpR (OwQ.op_eqOwn M.eqg (hr.mono (by decide))) (pv 2) (pv 13) (nomark _)) (pw_or (pt_cmpR (OwQ.op_eqOwn M.eqg (hr.mono (by decide))) (pv 13) (pv 2) (nomark _)) (pw_or (pt_not (pt_cmpR (OwQ.op_neOwn M.eqg (hr.mono (by decide)) (u2 hr.units)) (pv 2) (pv 13) (nomark _))) (pw_or1 (pt_not (pt_cmpR (OwQ.op_neOwn M.eqg (hr.mono (by decide)) (u2 hr.units)) (pv 13) (pv 2) (nomark _)))))))) (pss_one (ps_ret (pe_bl))) pss_nil)))
      (pss_one (ps_ret (pe_c M.lr hr rfl (pa_cons (pv 1) (pa_nil)))))))))))))), ?_⟩
    have fewS : sts.length < 64 := mv.few
    have nst := mv.asc.nodup
    have ndd := mv.dsc.nodup
    -- a store of the same moves, a state
    refine ⟨_, rfl, a, sts, ds, t, rfl, mt, mv, fun x1 H1 s1 hx10 g1 => ?_⟩
    have mt1 := mt.mono s1
    have hP1 := hP.mono s1
    have gx1 := gx.mono s1
    obtain ⟨ss, as, row, m1, pm, kt⟩ := id mt1
    have nss := pm.nodup_iff.mpr nst
    have lss : ss.length ≤ 8 := by rw [pm.length_eq]; exact few
    have ssne : ss ≠ [] := fun e => mv.ne (by rw [e] at pm; exact pm.symm.eq_nil)
    have lrow : ∀ u ∈ ss, (keysD (row u)).length ≤ 8 ∧ (keysD (row u)).Nodup := fun u hu => by
      obtain ⟨k1, _⟩ := kt u (pm.mem_iff.mp hu)
      exact ⟨by rw [k1.length_eq]; exact dfew, k1.nodup_iff.mpr ndd⟩
    refine oneSortR (p := p) (a := a) rfl (fun R h => ⟨_, rfl, h⟩) (.inl m1.at') m1.keys (by omega) ssne hP1 b0 (by omega) fun z H2 hz bt2 hP2 => ?_
    have mz : z ∈ sts := pm.mem_iff.mp hz
    have m2 := m1.but bt2 hP1.noK
    have gx2 := gx1.purse hP1 bt2
    have g12 := g1.purse hP1 bt2
    have bt02 : But p H H2 := (Same.asBut s1).trans bt2
    refine ⟨(by show 2 ≤ sizeLine; decide), fun tt htt => ?_⟩
    have s3 := Same.new (H := H2) (o := .tup [.ref x1, .str z]) htt
    have att : upd H2 tt (.tup [.ref x1, .str z]) tt = _ := upd_same
    generalize upd H2 tt (.tup [.ref x1, .str z]) = H3 at s3 att ⊢
    refine ⟨tt, _, rfl, SqT.of att, rfl, _, _, rfl, ?_⟩
    refine at_name (σ' := [some (.ref p), some (.ref a), some (.ref x), some (.ref x1), none, none, none, none, none, none, none, none, none, none, none]) rfl ?_
    refine ⟨_, _, rfl, ?_⟩
    refine at_name (σ' := [some (.ref p), some (.ref a), some (.ref x), some (.ref x1), some (.str z), none, none, none, none, none, none, none, none, none, none]) rfl ⟨rfl, ?_⟩
    have m3 := m2.mono s3
    have hP3 := hP2.mono s3
    have bt03 := bt02.same s3
    have gx3 := gx2.mono s3
    have g13 := g12.mono s3
    clear att htt s3
    obtain ⟨c, vc, hc3, mc⟩ := mvK_get m3.inns nss hz
    have nca : c ≠ a := fun e => (List.nodup_cons.mp m3.nda).1 (e ▸ mc)
    have dgm : ∀ {H' : Hp}, H' a = some (.dK (mvK ss as)) → DGet H' a (.str z) (some (.ref c)) := fun {H'} h => by
      have := DGet.k (k := Sum.inr z) h
      rw [vc] at this
      exact this
    obtain ⟨lrz, nrz⟩ := lrow z hz
    obtain ⟨kz1, kz2⟩ := kt z mz
    have rne : keysD (row z) ≠ [] := fun e => mv.dne (by rw [e] at kz1; exact kz1.symm.eq_nil)
    -- a deed, another state
    refine oneSortR (p := p) (a := c) rfl (fun R h => ⟨_, rfl, _, rfl, a, _, rfl, dgm m3.at', h⟩) (.inl hc3) (dkv_keys _) (by omega) rne hP3 (by omega) (by omega) fun o H4 ho bt4 hP4 => ?_
    have mo : o ∈ ds := kz1.mem_iff.mp ho
    have m4 := m3.but bt4 hP3.noK
    refine oneSortR (p := p) (a := a) rfl (fun R h => ⟨_, rfl, h⟩) (.inl m4.at') m4.keys (by omega) ssne hP4 (by omega) (by omega) fun y H5 hy bt5 hP5 => ?_
    have my : y ∈ sts := pm.mem_iff.mp hy
    have m5 := m4.but bt5 hP4.noK
    refine ⟨_, _, rfl, ?_⟩
    refine at_slots (σ' := [some (.ref p), some (.ref a), some (.ref x), some (.ref x1), some (.str z), some (.str o), some (.str y), none, none, none, none, none, none, none, none]) rfl ?_
    have bt05 : But p H H5 := (bt03.trans bt4).trans bt5
    have gx5 := (gx3.purse hP3 bt4).purse hP4 bt5
    have g15 := (g13.purse hP3 bt4).purse hP4 bt5
    have mt5 : MvT H5 a sts ds t := ⟨ss, as, row, m5, pm, kt⟩
    obtain ⟨_, _, hc5, _⟩ : True ∧ True ∧ H5 c = some (.dK (dkv (row z))) ∧ True := by
      obtain ⟨c', vc', hc', _⟩ := mvK_get m5.inns nss hz
      obtain rfl : c' = c := by
        have := vc'.symm.trans vc
        injection this with this
        injection this
      exact ⟨trivial, trivial, hc', trivial⟩
    clear m1 m2 m3 m4 hc3 gx1 gx2 gx3 g1 g12 g13 hP1 hP2 hP3 hP4 bt2 bt4 bt5 bt02 bt03
    -- the moves bent
    refine ⟨_, rfl, _, rfl, .inr (.inr ⟨a, ss, as, row, by decide, rfl, m5, nss, by omega, fun u hu => ⟨(lrow u hu).2, by rw [← keysD_len]; have := (lrow u hu).1; omega⟩, fun d bs H6 s6 hd0 frb m6 => ?_⟩)⟩
    refine at_name (σ' := [some (.ref p), some (.ref a), some (.ref x), some (.ref x1), some (.str z), some (.str o), some (.str y), some (.ref d), none, none, none, none, none, none, none]) rfl ?_
    obtain ⟨bb, vbb⟩ := m6.has nss hz
    obtain ⟨nbd, mbb, hbb, lbb, put⟩ := m6.put pm kt mv mz mo vbb
    have dgb : DGet H6 d (.str z) (some (.ref bb)) := by
      have := DGet.k (k := Sum.inr z) (show H6 d = some (.dK (mvK ss bs)) from m6.at')
      rw [vbb] at this
      exact this
    refine ⟨_, rfl, _, rfl, _, rfl, d, _, rfl, dgb, _, rfl, bb, _, rfl, DPut.k (k := Sum.inr o) hbb lbb, ?_⟩
    have s57 : L2.Same H5 (upd H6 bb (.dK (putK (dkv (row z)) (Sum.inr o) (.str y)))) := fun e u h => (upd_ne (ne_of_none h (frb bb mbb))).trans (s6 _ _ h)
    have mt7 := put y
    generalize upd H6 bb (.dK (putK (dkv (row z)) (Sum.inr o) (.str y))) = H7 at s57 mt7 ⊢
    clear m6 hbb vbb dgb put s6 hd0 frb lbb
    -- as told
    have gx7 := gx5.mono s57
    have g17 := g15.mono s57
    obtain ⟨dx, mm, bx, gx7a⟩ := id gx7
    obtain ⟨dx1, mm1, bx1, g17a⟩ := id g17
    refine ⟨_, rfl, _, rfl, x, dx, _, _, rfl, gx7a.st.ob, T.ty g17a.st.ob, M.nf, x, .ref x1, _, _, _, rfl, gx7, .inl ⟨x1, _, _, _, rfl, g17, _, rfl, ?_⟩⟩
    rw [sameG_self mv, if_neg Bool.false_ne_true]
    refine ⟨_, rfl, _, rfl, x, dx, _, _, rfl, gx7a.st.ob, T.ty g17a.st.ob, M.nf, x, .ref x1, _, _, _, rfl, gx7, .inl ⟨x1, _, _, _, rfl, g17, _, rfl, ?_⟩⟩
    rw [sameG_self mv, if_pos rfl, Bool.not_true]
    refine ⟨_, rfl, _, rfl, d, sts, ds, _, rfl, mt7, mv.put my, fun x2 H8 s8 hx20 g2 => ?_⟩
    have gx8 := gx7.mono s8
    have ob8 := s8 _ _ gx7a.st.ob
    obtain ⟨dx2, mm2, bx2, g2a⟩ := id g2
    refine ⟨x, dx, _, _, rfl, ob8, T.ty g2a.st.ob, M.nf, x, .ref x2, _, _, _, rfl, gx8, .inl ⟨x2, _, _, _, rfl, g2, _, rfl, ?_⟩⟩
    rw [sameG_set mv mz mo, if_neg Bool.false_ne_true]
    have s58 : L2.Same H5 H8 := s57.trans s8
    have m8 := m5.mono s58
    have ha8 : H8 a = some (.dK (mvK ss as)) := m8.at'
    refine ⟨_, rfl, _, rfl, x, dx, _, _, rfl, ob8, .base (.dK ha8), M.nfd, x, .ref a, _, _, _, rfl, gx8, .inr ⟨_, .base (.dK ha8), M.kd, _, rfl, ?_⟩⟩
    rw [if_neg Bool.false_ne_true]
    refine ⟨_, rfl, x, dx, _, _, rfl, ob8, .base (.int _), M.nfi, x, .int 0, _, _, _, rfl, gx8, .inr ⟨_, .base (.int _), M.ki, _, rfl, ?_⟩⟩
    rw [if_neg Bool.false_ne_true]
    refine ⟨(by show 5 ≤ sizeLine; decide), fun l1 hl10 => ?_⟩
    obtain ⟨bq, ebq⟩ : ∃ bq, bq = decide (t z o = y) := ⟨_, rfl⟩
    rw [← ebq]
    have s9 := Same.new (H := H8) (o := .lst [.bl true, .bl false, .bl bq, .bl false, .bl false]) hl10
    have hl1 : upd H8 l1 (.lst [.bl true, .bl false, .bl bq, .bl false, .bl false]) l1 = _ := upd_same
    generalize upd H8 l1 (.lst [.bl true, .bl false, .bl bq, .bl false, .bl false]) = H9 at s9 hl1 ⊢
    refine at_name (σ' := [some (.ref p), some (.ref a), some (.ref x), some (.ref x1), some (.str z), some (.str o), some (.str y), some (.ref d), some (.ref l1), none, none, none, none, none, none]) rfl ?_
    have s59 : L2.Same H5 H9 := s58.trans s9
    have m9 := m5.mono s59
    have hc9 := s59 _ _ hc5
    have dgo := DGet.k (k := Sum.inr o) hc9
    rw [valV_dkv nrz ho, kz2 o mo] at dgo
    refine ⟨_, rfl, _, rfl, _, rfl, a, _, rfl, dgm m9.at', _, rfl, c, _, rfl, dgo, _, rfl, rfl, ?_⟩
    rw [str_dec, ← ebq]
    refine ⟨(by show 5 ≤ sizeLine; decide), fun l2 hl20 => ?_⟩
    have s10 := Same.new (H := H9) (o := .lst [.bl true, .bl false, .bl bq, .bl false, .bl false]) hl20
    have hl2 : upd H9 l2 (.lst [.bl true, .bl false, .bl bq, .bl false, .bl false]) l2 = _ := upd_same
    generalize upd H9 l2 (.lst [.bl true, .bl false, .bl bq, .bl false, .bl false]) = H10 at s10 hl2 ⊢
    have fb : ∀ (b : Bool), Alike 7 H10 (.bl b) (.bl b) := fun b => .inl (.inr (.inr (.inl ⟨b, rfl, rfl⟩)))
    refine ⟨.ref l1, .ref l2, rfl, .inl (.inr (.inl ⟨l1, l2, _, _, rfl, rfl, s10 _ _ hl1, hl2, by show 5 ≤ 100; decide, .cons (fb _) (.cons (fb _) (.cons (fb _) (.cons (fb _) (.cons (fb _) .nil))))⟩)), fun H11 s11 => ⟨_, rfl, iteF ?_⟩⟩
    have s511 : L2.Same H5 H11 := s59.trans (s10.trans s11)
    clear fb dgo s9 s10 s11 hl1 hl2 hl10 hl20 s8 s57 s58 s59 mt7 gx7 g17 gx8 ob8 g2 g2a m8 ha8 m9 hc9 hx20
    have m11 := m5.mono s511
    have hc11 := s511 _ _ hc5
    -- spare words
    refine ⟨_, rfl, a, _, ss, rfl, .inl m11.at', m11.keys, by omega, fun ys1 q1 pq1 so1 hq10 => ?_⟩
    have z1 := Same.new (H := H11) (o := .lst (ys1.map V.str)) hq10
    have hq1 : upd H11 q1 (.lst (ys1.map V.str)) q1 = _ := upd_same
    generalize upd H11 q1 (.lst (ys1.map V.str)) = H12 at z1 hq1 ⊢
    have m12 := m11.mono z1
    refine ⟨_, rfl, _, rfl, a, _, rfl, dgm m12.at', c, _, _, rfl, .inl (z1 _ _ hc11), dkv_keys _, by omega, fun ys2 q2 pq2 so2 hq20 => ?_⟩
    have z2 := Same.new (H := H12) (o := .lst (ys2.map V.str)) hq20
    have hq2 : upd H12 q2 (.lst (ys2.map V.str)) q2 = _ := upd_same
    generalize upd H12 q2 (.lst (ys2.map V.str)) = H13 at z2 hq2 ⊢
    have ly1 : ys1.length ≤ 8 := by rw [pq1.length_eq]; exact lss
    have ly2 : ys2.length ≤ 8 := by rw [pq2.length_eq]; exact lrz
    refine ⟨q1, q2, _, _, rfl, rfl, z2 _ _ hq1, hq2, by rw [List.length_map, List.length_map, sizeLine_eq]; omega, fun q3 hq30 => ?_⟩
    rw [← List.map_append]
    have z3 := Same.new (H := H13) (o := .lst ((ys1 ++ ys2).map V.str)) hq30
    have hq3 : upd H13 q3 (.lst ((ys1 ++ ys2).map V.str)) q3 = _ := upd_same
    generalize upd H13 q3 (.lst ((ys1 ++ ys2).map V.str)) = H14 at z3 hq3 ⊢
    refine ⟨q3, ys1 ++ ys2, rfl, hq3, fun q4 H15 z4 hq40 hq4 => ?_⟩
    refine ⟨_, rfl, q4, _, rfl, SqL.of hq4, fun q5 hq50 => ?_⟩
    rw [show (2 : Int) = ((2 : Nat) : Int) from rfl, cut_to' _ 2]
    have two : 2 ≤ (spareW (ys1 ++ ys2)).length := spare_two (by rw [List.length_append]; omega)
    obtain ⟨w1, w2, rest, ew⟩ : ∃ w1 w2 rest, spareW (ys1 ++ ys2) = w1 :: w2 :: rest := by
      match e : spareW (ys1 ++ ys2) with
      | [] => rw [e] at two; simp at two
      | [_] => rw [e] at two; simp at two
      | u1 :: u2 :: us => exact ⟨u1, u2, us, rfl⟩
    have hw1 := spare_mem (ws := ys1 ++ ys2) (x := w1) (by rw [ew]; exact List.mem_cons_self)
    have hw2 := spare_mem (ws := ys1 ++ ys2) (x := w2) (by rw [ew]; exact List.mem_cons_of_mem _ List.mem_cons_self)
    have nw1 : w1 ∉ sts := fun h => hw1.2 (List.mem_append.mpr (.inl (pq1.mem_iff.mpr (pm.mem_iff.mpr h))))
    have nw2 : w2 ∉ ds := fun h => hw2.2 (List.mem_append.mpr (.inr (pq2.mem_iff.mpr (kz1.mem_iff.mpr h))))
    rw [show ((spareW (ys1 ++ ys2)).map V.str).take 2 = [.str w1, .str w2] by rw [ew]; rfl]
    have z5 := Same.new (H := H15) (o := .lst [.str w1, .str w2]) hq50
    have hq5 : upd H15 q5 (.lst [.str w1, .str w2]) q5 = _ := upd_same
    generalize upd H15 q5 (.lst [.str w1, .str w2]) = H16 at z5 hq5 ⊢
    refine ⟨q5, _, rfl, SqL.of hq5, rfl, _, _, rfl, ?_⟩
    refine at_name (σ' := [some (.ref p), some (.ref a), some (.ref x), some (.ref x1), some (.str z), some (.str o), some (.str y), some (.ref d), some (.ref l1), some (.str w1), none, none, none, none, none]) rfl ?_
    refine ⟨_, _, rfl, ?_⟩
    refine at_name (σ' := [some (.ref p), some (.ref a), some (.ref x), some (.ref x1), some (.str z), some (.str o), some (.str y), some (.ref d), some (.ref l1), some (.str w1), some (.str w2), none, none, none, none]) rfl ⟨rfl, ?_⟩
    have s516 : L2.Same H5 H16 := s511.trans (z1.trans (z2.trans (z3.trans (z4.trans z5))))
    have m16 := m5.mono s516
    have hc16 := s516 _ _ hc5
    clear z1 z2 z3 z4 z5 hq1 hq2 hq3 hq4 hq5 hq10 hq20 hq30 hq40 hq50 m11 hc11 m12 s511 two
    -- one more state
    refine ⟨_, rfl, a, _, rfl, m16.at', fun H17 li ts z6 hli0 _ _ hli it => ?_⟩
    have z6 : L2.Same H16 H17 := z6
    have m17 := m16.mono z6
    have hc17 := z6 _ _ hc16
    refine ⟨_, rfl, ?_⟩
    show tCB (rDP K) (tCons (tLockE (tLc (iKeys (tDGet (tVar 1) (tVar 4))) (gName 14) tYes _ [14])) tNil) _ _ _
    refine rdS_keysE (K := K) (xs := keysD (row z)) (kvs := dkv (row z)) (key := fun o => o) (val := fun _ => .str z) (fun od R hh => ⟨_, rfl, _, rfl, a, _, rfl, dgm ((upd_ne (Ne.symm nca)).trans m17.at'), hh⟩) hc17 (dkv_keys _) (by omega) ?_ ?_
    · intro u od J R hu j kR
      refine at_name (σ' := [some (.ref p), some (.ref a), some (.ref x), some (.ref x1), some (.str z), some (.str o), some (.str y), some (.ref d), some (.ref l1), some (.str w1), some (.str w2), none, none, none, some (.str u)]) rfl ⟨rfl, ?_⟩
      exact ⟨_, rfl, _, rfl, (by show 2 ≤ sizeLine; decide), fun tq htq0 => kR tq _ (Same.new htq0) upd_same⟩
    intro nq H18 z7 hnq0 hnq
    rw [mergeK_strs nrz] at hnq
    have hnq : H18 nq = some (.dK (dkv (rowT (keysD (row z)) (fun _ _ => z) w1))) := by rw [hnq]; unfold dkv rowT; rw [List.map_map]; rfl
    refine ⟨(by show 2 ≤ sizeLine; decide), fun t1 ht10 => ?_⟩
    have z8 := Same.new (H := H18) (o := .tup [.str w1, .ref nq]) ht10
    have ht1 : upd H18 t1 (.tup [.str w1, .ref nq]) t1 = _ := upd_same
    generalize upd H18 t1 (.tup [.str w1, .ref nq]) = H19 at z8 ht1 ⊢
    refine ⟨(by show 1 ≤ sizeLine; decide), fun l3 hl30 => ?_⟩
    have z9 := Same.new (H := H19) (o := .lst [.ref t1]) hl30
    have hl3 : upd H19 l3 (.lst [.ref t1]) l3 = _ := upd_same
    generalize upd H19 l3 (.lst [.ref t1]) = H20 at z9 hl3 ⊢
    have z79 : L2.Same H17 H20 := z7.trans (z8.trans z9)
    have lts : ts.length = ss.length := by rw [Paired.length it, m16.len2]
    refine ⟨li, l3, _, _, rfl, rfl, z79 _ _ hli, hl3, by rw [List.length_map, sizeLine_eq]; show ts.length + 1 ≤ _; omega, fun l4 hl40 => ?_⟩
    have z10 := Same.new (H := H20) (o := .lst (ts.map V.ref ++ [.ref t1])) hl40
    have hl4 : upd H20 l4 (.lst (ts.map V.ref ++ [.ref t1])) l4 = some (.lst ((ts ++ [t1]).map V.ref)) := by rw [upd_same, List.map_append]; rfl
    generalize upd H20 l4 (.lst (ts.map V.ref ++ [.ref t1])) = H21 at z10 hl4 ⊢
    have z710 : L2.Same H17 H21 := z79.trans z10
    have emv : mvK (ss ++ [w1]) (as ++ [nq]) = mvK ss as ++ [(Sum.inr w1, V.ref nq)] := by
      unfold mvK
      rw [List.zip_append m16.len.symm, List.map_append]; rfl
    refine ⟨l4, ts ++ [t1], mvK ss as ++ [(Sum.inr w1, V.ref nq)], rfl, SqL.of hl4, paired_snoc (Paired.mapP it fun t q h => SqT.of (z710 _ _ h)) (SqT.of (z10 _ _ (z9 _ _ ht1))), fun wq hwq0 => ?_⟩
    have ndw : (ss ++ [w1]).Nodup := List.nodup_append.mpr ⟨nss, by simp, fun u hu v hv e => nw1 (by rw [List.mem_singleton.mp hv] at e; rw [← e]; exact pm.mem_iff.mp hu)⟩
    rw [← emv, mergeK_nd _ _ (by rw [List.nil_append, mvK_keys (by rw [List.length_append, List.length_append, m16.len]; rfl)]; exact inr_nodup ndw), List.nil_append]
    have z11 := Same.new (H := H21) (o := .dK (mvK (ss ++ [w1]) (as ++ [nq]))) hwq0
    have hwq : upd H21 wq (.dK (mvK (ss ++ [w1]) (as ++ [nq]))) wq = _ := upd_same
    generalize upd H21 wq (.dK (mvK (ss ++ [w1]) (as ++ [nq]))) = H22 at z11 hwq ⊢
    refine at_name (σ' := [some (.ref p), some (.ref a), some (.ref x), some (.ref x1), some (.str z), some (.str o), some (.str y), some (.ref d), some (.ref l1), some (.str w1), some (.str w2), some (.ref wq), none, none, none]) rfl ?_
    have z1622 : L2.Same H16 H22 := z6.trans (z710.trans z11)
    have mtw : MvT H22 wq (ascOf (sts ++ [w1])) ds (wideS t w1 z) := wideMvT mv m16 pm kt nw1 mz z1622 ((z6.trans z710).free hwq0) (z6.free hnq0) (z11 _ _ (z10 _ _ (z9 _ _ (z8 _ _ hnq)))) hwq
    have mvw : MV (ascOf (sts ++ [w1])) ds (wideS t w1 z) := wideMV mv hw1.1 nw1 mz (by omega)
    have s522 : L2.Same H5 H22 := s516.trans z1622
    have m22 := m5.mono s522
    clear z6 z7 z8 z9 z10 z11 z79 z710 z1622 hli it hnq ht1 hl3 hl4 hwq ht10 hl30 hl40 hli0 hnq0 hwq0 emv hc17 m17 m16 hc16 s516
    -- one more deed
    show tCB (rDP K) (tCons (tLockE (tLc (iKeys (tVar 1)) (gName 14) tYes _ [14])) tNil) _ _ _
    refine rdR_keys (K := K) (fun s => s) (fun s => .dK (dkv (row s ++ [(w2, s)]))) (fun _ _ z => by cases z) (xs := ss) (kvs := mvK ss as) (fun od R hh => ⟨_, rfl, hh⟩) m22.at' m22.keys (by omega) (by rw [List.map_id']; exact nss) (fun _ _ _ z => by cases z) ?_ ?_
    · intro u od J R hu j kR
      refine at_name (σ' := [some (.ref p), some (.ref a), some (.ref x), some (.ref x1), some (.str z), some (.str o), some (.str y), some (.ref d), some (.ref l1), some (.str w1), some (.str w2), some (.ref wq), none, none, some (.str u)]) rfl ⟨rfl, ?_⟩
      obtain ⟨cu, vu, hcu, mcu⟩ := mvK_get m22.inns nss hu
      have nua : cu ≠ a := fun e => (List.nodup_cons.mp m22.nda).1 (by rw [← e]; exact mcu)
      have dgu : DGet J a (.str u) (some (.ref cu)) := .inl ⟨_, Sum.inr u, .inr ⟨od, j _ _ upd_same⟩, rfl, vu.symm⟩
      have hcuJ := j _ _ ((upd_ne nua).trans hcu)
      obtain ⟨lru, nru⟩ := lrow u hu
      refine ⟨_, rfl, ?_⟩
      refine ⟨_, rfl, _, rfl, a, _, rfl, dgu, cu, _, rfl, hcuJ, fun J1 li ts j1 hli0 _ _ hli it => ?_⟩
      have j1 : L2.Same J J1 := j1
      refine ⟨_, rfl, _, rfl, (by show 2 ≤ sizeLine; decide), fun t1 ht10 => ?_⟩
      have j2 := Same.new (H := J1) (o := .tup [.str w2, .str u]) ht10
      have ht1 : upd J1 t1 (.tup [.str w2, .str u]) t1 = _ := upd_same
      generalize upd J1 t1 (.tup [.str w2, .str u]) = J2 at j2 ht1 ⊢
      refine ⟨(by show 1 ≤ sizeLine; decide), fun l3 hl30 => ?_⟩
      have j3 := Same.new (H := J2) (o := .lst [.ref t1]) hl30
      have hl3 : upd J2 l3 (.lst [.ref t1]) l3 = _ := upd_same
      generalize upd J2 l3 (.lst [.ref t1]) = J3 at j3 hl3 ⊢
      have j13 : L2.Same J1 J3 := j2.trans j3
      have lts : ts.length = (row u).length := by rw [Paired.length it, dkv_len]
      have lru2 : (row u).length ≤ 8 := by rw [← keysD_len]; exact lru
      refine ⟨li, l3, _, _, rfl, rfl, j13 _ _ hli, hl3, by rw [List.length_map, sizeLine_eq]; show ts.length + 1 ≤ _; omega, fun l4 hl40 => ?_⟩
      have j4 := Same.new (H := J3) (o := .lst (ts.map V.ref ++ [.ref t1])) hl40
      have hl4 : upd J3 l4 (.lst (ts.map V.ref ++ [.ref t1])) l4 = some (.lst ((ts ++ [t1]).map V.ref)) := by rw [upd_same, List.map_append]; rfl
      generalize upd J3 l4 (.lst (ts.map V.ref ++ [.ref t1])) = J4 at j4 hl4 ⊢
      have j14 : L2.Same J1 J4 := j13.trans j4
      have edk : dkv (row u ++ [(w2, u)]) = dkv (row u) ++ [(Sum.inr w2, V.str u)] := by unfold dkv; rw [List.map_append]; rfl
      have nk2 : (keysD (row u ++ [(w2, u)])).Nodup := (longRow mv (kt u (pm.mem_iff.mp hu)).1 (kt u (pm.mem_iff.mp hu)).2 nw2).1.nodup_iff.mpr (ascOf_asc (List.nodup_append.mpr ⟨ndd, by simp, fun p1 hp1 p2 hp2 e => nw2 (by rw [List.mem_singleton.mp hp2] at e; rw [← e]; exact hp1)⟩)).nodup
      refine ⟨l4, ts ++ [t1], dkv (row u ++ [(w2, u)]), rfl, SqL.of hl4, by rw [edk]; exact paired_snoc (Paired.mapP it fun t q h => SqT.of (j14 _ _ h)) (SqT.of (j4 _ _ (j3 _ _ ht1))), fun qn hqn0 => ?_⟩
      rw [mergeK_dkv nk2]
      have j5 := Same.new (H := J4) (o := .dK (dkv (row u ++ [(w2, u)]))) hqn0
      have hqn : upd J4 qn (.dK (dkv (row u ++ [(w2, u)]))) qn = _ := upd_same
      generalize upd J4 qn (.dK (dkv (row u ++ [(w2, u)]))) = J5 at j5 hqn ⊢
      refine ⟨(by show 2 ≤ sizeLine; decide), fun tq htq0 => ?_⟩
      have j6 := Same.new (H := J5) (o := .tup [.str u, .ref qn]) htq0
      exact kR tq qn _ (j1.trans (j14.trans (j5.trans j6))) ((j1.trans j14).free hqn0) (j6 _ _ hqn) upd_same
    intro lq bs2 H23 z12 hlq0 lb nda frl hlq ob
    rw [List.map_id'] at hlq
    refine at_name (σ' := [some (.ref p), some (.ref a), some (.ref x), some (.ref x1), some (.str z), some (.str o), some (.str y), some (.ref d), some (.ref l1), some (.str w1), some (.str w2), some (.ref wq), some (.ref lq), none, none]) rfl ?_
    have mtl : MvT H23 lq sts (ascOf (ds ++ [w2])) (longS t w2) := ⟨ss, bs2, fun s => row s ++ [(w2, s)], ⟨hlq, lb, nda, fun i s b h1 h2 => ob i s b h1 h2⟩, pm, fun s hs => longRow mv (kt s hs).1 (kt s hs).2 nw2⟩
    have mvl : MV sts (ascOf (ds ++ [w2])) (longS t w2) := longMV mv hw2.1 nw2 (by omega)
    have mtw3 := mtw.mono z12
    have s523 := s522.trans z12
    -- the two stores
    refine ⟨_, rfl, fun x3 dx3 hx30 hdx30 ndx3 => mk_storeG mtw3 mvw hx30 hdx30 ndx3 fun m3 b3 H24 g3 _ _ z13 => ⟨rfl, ?_⟩⟩
    refine ⟨_, rfl, fun x4 dx4 hx40 hdx40 ndx4 => mk_storeG (mtl.mono z13) mvl hx40 hdx40 ndx4 fun m4 b4 H25 g4 _ _ z14 => ⟨rfl, ?_⟩⟩
    refine ⟨(by show 2 ≤ sizeLine; decide), fun tt2 htt20 => ?_⟩
    have z15 := Same.new (H := H25) (o := .tup [.ref x3, .ref x4]) htt20
    have htt2 : upd H25 tt2 (.tup [.ref x3, .ref x4]) tt2 = _ := upd_same
    generalize upd H25 tt2 (.tup [.ref x3, .ref x4]) = H26 at z15 htt2 ⊢
    have s526 : L2.Same H5 H26 := s523.trans (z13.trans (z14.trans z15))
    have gx26 := gx5.mono s526
    have oth : ∀ v ∈ [V.ref x3, V.ref x4], ∃ (yy : Addr) (sts2 ds2 : List Str) (t2 : Str → Str → Str), v = .ref yy ∧ GoE G H26 yy sts2 ds2 t2 ∧ sameG sts ds t sts2 ds2 t2 = false ∧ sameG sts2 ds2 t2 sts ds t = false := by
      intro v hv
      rcases List.mem_cons.mp hv with rfl | hv
      · have nl : sts.length ≠ (ascOf (sts ++ [w1])).length := by rw [(ascOf_perm _).length_eq, List.length_append, List.length_singleton]; omega
        exact ⟨x3, _, _, _, rfl, ⟨dx3, m3, b3, (g3.mono z14).mono z15⟩, sameG_len nl, sameG_len (Ne.symm nl)⟩
      · obtain rfl := List.mem_singleton.mp hv
        have nl : ds.length ≠ (ascOf (ds ++ [w2])).length := by rw [(ascOf_perm _).length_eq, List.length_append, List.length_singleton]; omega
        exact ⟨x4, _, _, _, rfl, ⟨dx4, m4, b4, g4.mono z15⟩, sameG_rows mv.ne nl, sameG_rows mv.ne (Ne.symm nl)⟩
    refine ⟨tt2, rfl, ⟨_, SqT.of htt2⟩, ?_⟩
    refine for_tup (K := K) (a := tt2) (xs := [V.ref x3, V.ref x4]) (fun i σ H' => ∃ x13, σ = [some (.ref p), some (.ref a), some (.ref x), some (.ref x1), some (.str z), some (.str o), some (.str y), some (.ref d), some (.ref l1), some (.str w1), some (.str w2), some (.ref wq), some (.ref lq), x13, none] ∧ L2.Same H26 H') ?_ ?_ ?_ ?_
    · exact ⟨_, rfl, fun _ _ e => e⟩
    · rintro i σ H' _ ⟨x13, rfl, h⟩
      exact SqT.of (h _ _ htt2)
    · rintro i v σ H27 hx ⟨x13, rfl, s27⟩
      obtain ⟨yy, sts2, ds2, t2, rfl, gy, e1, e2⟩ := oth v (List.mem_of_getElem? hx)
      refine at_name (σ' := [some (.ref p), some (.ref a), some (.ref x), some (.ref x1), some (.str z), some (.str o), some (.str y), some (.ref d), some (.ref l1), some (.str w1), some (.str w2), some (.ref wq), some (.ref lq), some (.ref yy), none]) rfl ?_
      have gx27 := gx26.mono s27
      have gy27 := gy.mono s27
      obtain ⟨dxa, mma, bba, ga⟩ := id gx27
      obtain ⟨dxb, mmb, bbb, gb⟩ := id gy27
      refine ⟨fun b H' => b = false ∧ L2.Same H27 H', ?_, ?_⟩
      · refine ⟨_, rfl, _, rfl, x, dxa, _, _, rfl, ga.st.ob, T.ty gb.st.ob, M.nf, x, .ref yy, _, _, _, rfl, gx27, .inl ⟨yy, _, _, _, rfl, gy27, _, rfl, ?_⟩⟩
        rw [e1, if_neg Bool.false_ne_true]
        refine ⟨_, rfl, iteF ?_⟩
        refine ⟨_, rfl, _, rfl, yy, dxb, _, _, rfl, gb.st.ob, T.ty ga.st.ob, M.nf, yy, .ref x, _, _, _, rfl, gy27, .inl ⟨x, _, _, _, rfl, gx27, _, rfl, ?_⟩⟩
        rw [e2, if_neg Bool.false_ne_true]
        refine ⟨_, rfl, iteF ?_⟩
        refine ⟨_, rfl, _, rfl, x, dxa, _, _, rfl, ga.st.ob, T.ty gb.st.ob, M.nf, x, .ref yy, _, _, _, rfl, gx27, .inl ⟨yy, _, _, _, rfl, gy27, _, rfl, ?_⟩⟩
        rw [e1, if_pos rfl, Bool.not_false]
        refine ⟨_, rfl, iteF ?_⟩
        refine ⟨_, rfl, _, rfl, yy, dxb, _, _, rfl, gb.st.ob, T.ty ga.st.ob, M.nf, yy, .ref x, _, _, _, rfl, gy27, .inl ⟨x, _, _, _, rfl, gx27, _, rfl, ?_⟩⟩
        rw [e2, if_pos rfl, Bool.not_false]
        exact ⟨_, rfl, rfl, fun _ _ e => e⟩
      · rintro b H28 ⟨rfl, s28⟩
        exact iteF ⟨_, rfl, s27.trans s28⟩
    · rintro σ H27 ⟨x13, rfl, s27⟩
      have s527 := s526.trans s27
      refine ⟨_, rfl, a, sts, ds, t, rfl, mt5.mono s527, mv, fun H28 s28 => ?_⟩
      exact k _ ((bt05.same s527).same s28) (((hP5.mono s527).mono s28).le (by omega))
end
end KT
set_option Elab.async false
set_option linter.all false
set_option maxRecDepth 100000
set_option maxHeartbeats 4000000
set_option pp.maxSteps 900
namespace KT
open PySem L2 PyProof.Rows DTp TxS DKq
section
variable {P : Program} {w : World} {K : PySem.W.Frag} {mg : Str → Option Value} {base : Heap} {G : Addr}
structure LawC (P : Program) (w : World) (K : PySem.W.Frag) (mg : Str → Option Value) (base : Heap) (G : Addr) : Prop where
  pur : Cee P w K mg base 2 "_law_purses" ["_law_script", "_law_few"] (spPurses K)
  sett : Cee P w K mg base 6 "_law_setting" ["_law_purse_here", "_law_most"] spSetting
  some : Cee P w K mg base 6 "_law_some_moves" ["_law_purse_here", "_law_setting_here"] spSomeMv
  sto : Cee P w K mg base 6 "_law_store" ["_law_moves"] (spSto G)
  rt : Cee P w K mg base 10 "_law_right" ["_law_purse_here", "_law_setting_here", "_law_moves", "_law_store_here"] (spRight G)
  er : Cee P w K mg base 11 "_law_equal_right" ["_law_purse_here", "_law_moves", "_law_store_here"] (spEqR G)
  br : Cee P w K mg base 10 "_law_both_right" ["_law_one", "_law_other", "_law_first", "_law_second"] (spBothR G)
def spLaw (K : PySem.W.Frag) : Sp := fun vs H Q _ => ∃ (a : Addr) (ns : List Int), vs = [.ref a] ∧ SqL K H a (ns.map V.int) ∧ ns.length ≤ 63 ∧ ∀ H', Q (.bl true) H'
abbrev nLaw : List Str := ["_law_script", "_law_purse_here", "_law_setting_here", "_law_both", "_law_made", "_law_at", "_law_moves"]
theorem scLaw : FnScope nLaw ["_law_script"] (defScope sLaw) := ⟨rfl, rfl, rfl, by decide +kernel, rfl, by decide +kernel, by decide +kernel⟩
theorem DlOk.ne {ws : List Str} {f : Str → Str → Str} {dl : List (Str × Str)} (ok : DlOk ws dl) (kw : KW ws f) : keysD dl ≠ [] := fun e => by
  obtain ⟨x, hx⟩ := List.exists_mem_of_ne_nil ws (fun e2 => by have := kw.pos; rw [e2] at this; exact Nat.lt_irrefl _ this)
  obtain ⟨p, hp, _⟩ := ok.all x hx
  have : p.1 ∈ keysD dl := List.mem_map.mpr ⟨p, hp, rfl⟩
  rw [e] at this; cases this
theorem PurseAt.refs {H : Hp} {p l : Addr} {B : Int} {b : Addr} {xs : List V} (hP : PurseAt H p B) (h : H l = some (.lst (.ref b :: xs))) : l ≠ p := by
  obtain ⟨u1, u2, u3, u4, h1, _⟩ := hP
  refine ne_of h h1 ?_
  intro z
  injection z with z
  injection z with z _
  cases z
theorem ok_law {g : Addr} {fd : FuncData} (F : Fun K "law" "law" sLaw g fd) (M : LawC P w K mg base G) : FnOk P w K mg base CX0 12 g fd ["_law_script"] (spLaw K) := by
  refine F.ok scLaw (fun vs H Q E h => ?_) (fun cdv A outer s H vs Q E hr h => ?_)
  · obtain ⟨a, ns, rfl, _⟩ := h
    rfl
  · obtain ⟨a, ns, rfl, hS, hl, k⟩ := h
    have nd := scLaw.nd
    refine ⟨_, pss_cons (ps_for PassesOwn.never rfl (pi_list (pe_c M.pur hr rfl (pa_cons (pv 0) (pa_cons (pe_int) (pa_nil))))) (pg_name (i := 1) nd rfl (Or.inl rfl)) (pss_cons (ps_set (i := 2) nd rfl (Or.inl rfl) (pe_c M.sett hr rfl (pa_cons (pv 1) (pa_cons (pe_int) (pa_nil)))))
      (pss_cons (ps_set (i := 3) nd rfl (Or.inl rfl) (pe_lst (pa_cons (pe_c M.some hr rfl (pa_cons (pv 1) (pa_cons (pv 2) (pa_nil)))) (pa_cons (pe_c M.some hr rfl (pa_cons (pv 1) (pa_cons (pv 2) (pa_nil)))) (pa_nil)))))
      (pss_cons (ps_setLc (i := 4) (own := [("_law_moves", 6)]) (g := gName 6) (tt := tYes) (te := tCall (spSto G) [] E0 (tCons (tVar 6) tNil)) rfl nd rfl rfl (sw_true rfl rfl rfl (by decide +kernel)) (pi_list (pv 3)) (blkOk_by (own := [("_law_moves", 6)]) (N := nLaw) (sc := defScope sLaw) (by decide +kernel)) (fun _ _ _ _ _ => pg_name (i := 6) nd rfl (Or.inl rfl)) (fun _ _ _ _ _ => pts_nil) (fun _ _ _ _ _ => pe_c M.sto hr rfl (pa_cons (pv 6) (pa_nil))))
      (pss_cons (ps_for PassesOwn.never rfl (pi_tup (pe_tup (pa_cons (pe_int) (pa_cons (pe_int) (pa_cons (pe_int) (pa_nil)))))) (pg_name (i := 5) nd rfl (Or.inl rfl)) (pss_one (ps_if (pt_cut <| PW.pt (pw_or (pt_not (pt_val (pe_c M.rt hr rfl (pa_cons (pv 1) (pa_cons (pv 2) (pa_cons (pe_ix ix_list (pv 3) (pv 5) (fun _ _ => rfl)) (pa_cons (pe_ix ix_list (pv 4) (pv 5) (fun _ _ => rfl)) (pa_nil)))))))) (pw_or1 (pt_not (pt_val (pe_c M.er hr rfl (pa_cons (pv 1) (pa_cons (pe_ix ix_list (pv 3) (pv 5) (fun _ _ => rfl)) (pa_cons (pe_ix ix_list (pv 4) (pv 5) (fun _ _ => rfl)) (pa_nil)))))))))) (pss_one (ps_ret (pe_bl))) pss_nil)))
      (pss_one (ps_if (pt_cut <| PW.pt (pw_or (pt_not (pt_val (pe_c M.br hr rfl (pa_cons (pe_ix ix_list (pv 3) pe_int (fun _ _ => rfl)) (pa_cons (pe_ix ix_list (pv 3) pe_int (fun _ _ => rfl)) (pa_cons (pe_ix ix_list (pv 4) pe_int (fun _ _ => rfl)) (pa_cons (pe_ix ix_list (pv 4) pe_int (fun _ _ => rfl)) (pa_nil)))))))) (pw_or1 (pt_not (pt_val (pe_c M.br hr rfl (pa_cons (pe_ix ix_list (pv 3) pe_int (fun _ _ => rfl)) (pa_cons (pe_ix ix_list (pv 3) pe_int (fun _ _ => rfl)) (pa_cons (pe_ix ix_list (pv 4) pe_int (fun _ _ => rfl)) (pa_cons (pe_ix ix_list (pv 4) pe_int (fun _ _ => rfl)) (pa_nil))))))))))) (pss_one (ps_ret (pe_bl))) pss_nil)))))))
      (pss_one (ps_ret (pe_bl))), ?_⟩
    refine ⟨_, rfl, a, ns, 1, rfl, hS, hl, by decide, by decide, fun l ps G0 s1 hlG hps ndp ne lps => ?_⟩
    refine ⟨l, rfl, ⟨_, SqL.of hlG⟩, ?_⟩
    refine for_list (K := K) (a := l) (xs := ps.map V.ref) (fun i σ H' => ∃ x1 x2 x3 x4 x5, σ = [some (.ref a), x1, x2, x3, x4, x5, none] ∧ H' l = some (.lst (ps.map V.ref)) ∧ ∀ (j : Nat) (p : Addr), i ≤ j → ps[j]? = some p → PurseAt H' p 0) ?_ ?_ ?_ ?_
    · exact ⟨_, _, _, _, _, rfl, hlG, fun j p _ hj => (hps p (List.mem_of_getElem? hj)).1⟩
    · rintro i σ H' _ ⟨x1, x2, x3, x4, x5, rfl, hl', _⟩
      exact SqL.of hl'
    · rintro i x σ H1 hx ⟨x1, x2, x3, x4, x5, rfl, hl1, pu⟩
      rw [List.getElem?_map] at hx
      cases ep : ps[i]? with
      | none => rw [ep] at hx; cases hx
      | some p =>
        rw [ep] at hx
        obtain rfl : V.ref p = x := Option.some.inj hx
        have hP := pu i p (Nat.le_refl _) ep
        have npl : l ≠ p := (hps p (List.mem_of_getElem? ep)).2.2.symm
        refine at_name (σ' := [some (.ref a), some (.ref p), x2, x3, x4, x5, none]) rfl ?_
        refine ⟨_, rfl, p, _, 3, rfl, by decide, by decide, hP, by omega, by omega, fun s0 td da tl ws f dl tw H2 bt2 hP2 se => ?_⟩
        refine at_name (σ' := [some (.ref a), some (.ref p), some (.ref s0), x3, x4, x5, none]) rfl ?_
        have dne := se.ok.ne se.kw
        have ldl : (keysD dl).length ≤ 8 := by rw [keysD_len]; exact se.ok.few
        -- two stores' moves
        refine ⟨_, rfl, _, rfl, p, s0, td, da, tl, _, ws, f, dl, tw, rfl, hP2, by omega, by omega, se, dne, fun q1 H3 bt3 hP3 hq10 ⟨sts1, t1, mt1, mv1, few1⟩ => ?_⟩
        have se3 := se.purse hP2 bt3
        refine ⟨_, rfl, _, rfl, p, s0, td, da, tl, _, ws, f, dl, tw, rfl, hP3, by omega, by omega, se3, dne, fun q2 H4 bt4 hP4 hq20 ⟨sts2, t2, mt2, mv2, few2⟩ => ?_⟩
        have se4 := se3.purse hP3 bt4
        have mt14 := mt1.purse hP3 bt4
        refine ⟨(by show 2 ≤ sizeLine; decide), fun lb hlb0 => ?_⟩
        have s5 := Same.new (H := H4) (o := .lst [.ref q1, .ref q2]) hlb0
        have hlb : upd H4 lb (.lst [.ref q1, .ref q2]) lb = _ := upd_same
        generalize upd H4 lb (.lst [.ref q1, .ref q2]) = H5 at s5 hlb ⊢
        refine at_name (σ' := [some (.ref a), some (.ref p), some (.ref s0), some (.ref lb), x4, x5, none]) rfl ?_
        have mA := mt14.mono s5
        have mB := mt2.mono s5
        have bt15 : But p H1 H5 := ((bt2.trans bt3).trans bt4).same s5
        have hP5 := hP4.mono s5
        have se5 := se4.mono s5
        -- the stores
        obtain ⟨ms, ems⟩ : ∃ ms : List (List Str × (Str → Str → Str)), ms = [(sts1, t1), (sts2, t2)] := ⟨_, rfl⟩
        have hms : ∀ (n : Nat) (v : V), [V.ref q1, V.ref q2][n]? = some v → ∃ q m, v = .ref q ∧ ms[n]? = some m ∧ MvT H5 q m.1 (keysD dl) m.2 ∧ MV m.1 (keysD dl) m.2 := fun n v hv => by
          rw [ems]
          match n with
          | 0 => obtain rfl := Option.some.inj hv; exact ⟨q1, _, rfl, rfl, mA, mv1⟩
          | 1 => obtain rfl := Option.some.inj hv; exact ⟨q2, _, rfl, rfl, mB, mv2⟩
        refine ⟨_, rfl, lb, rfl, ⟨_, SqL.of hlb⟩, fun D hD => ?_⟩
        refine lc_it (walk_list (K := K) (a := lb) (xs := [V.ref q1, V.ref q2])) (fun n H' => L2.Same H5 H' ∧ ∃ xs : List Addr, H' D = some (.lst (xs.map V.ref)) ∧ Paired (fun x (m : List Str × (Str → Str → Str)) => GoE G H' x m.1 (keysD dl) m.2) xs (ms.take n)) ?_ ?_ ?_ ?_
        · exact ⟨Same.new hD, [], upd_same, by rw [List.take_zero]; exact .nil⟩
        · rintro n H' _ ⟨s, _⟩
          exact SqL.of (s _ _ hlb)
        · rintro n v H6' H6 hn ⟨s6, xs, hD6, pr⟩ ⟨rfl, hx⟩
          obtain ⟨q, m, rfl, em, mt6, mv6⟩ := hms n v hx
          refine at_name (σ' := [some (.ref a), some (.ref p), some (.ref s0), some (.ref lb), x4, x5, some (.ref q)]) rfl ⟨rfl, yes_if ?_⟩
          refine ⟨_, rfl, q, m.1, _, m.2, rfl, mt6.mono s6, mv6, fun x H7 s7 hx0 gx => ?_⟩
          have hD7 := s7 _ _ hD6
          have lx : xs.length ≤ 2 := by
            have := Paired.length pr
            rw [List.length_take, ems] at this
            have : (([(sts1, t1), (sts2, t2)] : List (List Str × (Str → Str → Str)))).length = 2 := rfl
            omega
          have stay : ∀ {x : Addr} {st : List Str} {tt : Str → Str → Str} {o : HO}, GoE G H7 x st (keysD dl) tt → GoE G (upd H7 D o) x st (keysD dl) tt := fun {x st tt o} g => let ⟨d1, m1, b1, g1⟩ := g; ⟨d1, m1, b1, g1.but (p := D) (fun c u nc e => (upd_ne nc).trans e) (fun kvs e => by rw [hD7] at e; cases e) (fun _ _ _ e => by rw [hD7] at e; cases e)⟩
          refine ⟨_, hD7, by rw [List.length_map]; exact small1000 (by omega), fun c o e => ?_, xs ++ [x], by rw [upd_same, List.map_append]; rfl, ?_⟩
          · rw [upd_ne (ne_of_none e hD)]
            exact s7 _ _ (s6 _ _ e)
          · rw [take_next' em]
            exact paired_snoc (Paired.mapP pr fun x m g => stay (g.mono s7)) (stay gx)
        rintro H6 ⟨s6, xs, hD6, pr⟩
        obtain ⟨x1, x2, rfl, g1, g2⟩ : ∃ x1 x2, xs = [x1, x2] ∧ GoE G H6 x1 sts1 (keysD dl) t1 ∧ GoE G H6 x2 sts2 (keysD dl) t2 := by
          rw [ems] at pr
          have pr : Paired (fun x (m : List Str × (Str → Str → Str)) => GoE G H6 x m.1 (keysD dl) m.2) xs [(sts1, t1), (sts2, t2)] := pr
          cases pr with
          | cons r t => cases t with
            | cons r2 t2 => cases t2; exact ⟨_, _, rfl, r, r2⟩
        refine at_name (σ' := [some (.ref a), some (.ref p), some (.ref s0), some (.ref lb), some (.ref D), x5, none]) rfl ?_
        refine ⟨(by show 3 ≤ sizeLine; decide), fun tt htt0 => ?_⟩
        have s7 := Same.new (H := H6) (o := .tup [.int 0, .int 1, .int 0]) htt0
        have htt : upd H6 tt (.tup [.int 0, .int 1, .int 0]) tt = _ := upd_same
        generalize upd H6 tt (.tup [.int 0, .int 1, .int 0]) = H7 at s7 htt ⊢
        have s57 := s6.trans s7
        have mA7 := mA.mono s57
        have mB7 := mB.mono s57
        have g17 := g1.mono s7
        have g27 := g2.mono s7
        have hlb7 := s57 _ _ hlb
        have hD7 : H7 D = some (.lst [.ref x1, .ref x2]) := s7 _ _ hD6
        have se7 := se5.mono s57
        have hP7 := hP5.mono s57
        have bt17 := bt15.same s57
        have nlb := hP7.refs hlb7
        have nDp := hP7.refs hD7
        have ntt : tt ≠ p := by
          obtain ⟨u1, u2, u3, u4, h1, _⟩ := hP7
          exact ne_of htt h1 (by intro z; cases z)
        have at2 : ∀ v ∈ [V.int 0, V.int 1, V.int 0], ∃ (j : Int) (q x : Addr) (sts : List Str) (t : Str → Str → Str), v = .int j ∧ atI [V.ref q1, V.ref q2] j = some (.ref q) ∧ atI [V.ref x1, V.ref x2] j = some (.ref x) ∧ MvT H7 q sts (keysD dl) t ∧ MV sts (keysD dl) t ∧ GoE G H7 x sts (keysD dl) t ∧ sts.length ≤ 6 := by
          intro v hv
          simp only [List.mem_cons, List.not_mem_nil, or_false] at hv
          rcases hv with rfl | rfl | rfl
          · exact ⟨0, q1, x1, _, _, rfl, atI_nat (j := 0) rfl, atI_nat (j := 0) rfl, mA7, mv1, g17, few1⟩
          · exact ⟨1, q2, x2, _, _, rfl, atI_nat (j := 1) rfl, atI_nat (j := 1) rfl, mB7, mv2, g27, few2⟩
          · exact ⟨0, q1, x1, _, _, rfl, atI_nat (j := 0) rfl, atI_nat (j := 0) rfl, mA7, mv1, g17, few1⟩
        refine ⟨tt, rfl, ⟨_, SqT.of htt⟩, ?_⟩
        refine for_tup (K := K) (a := tt) (xs := [V.int 0, V.int 1, V.int 0]) (fun j σ H' => ∃ x5, σ = [some (.ref a), some (.ref p), some (.ref s0), some (.ref lb), some (.ref D), x5, none] ∧ But p H7 H' ∧ PurseAt H' p (10000 + 4000 * (j : Nat))) ?_ ?_ ?_ ?_
        · exact ⟨_, rfl, But.refl _ _, hP7.le (by omega)⟩
        · rintro j σ H' _ ⟨x5, rfl, bt, _⟩
          exact SqT.of (bt _ _ ntt htt)
        · rintro j v σ H8 hx ⟨x5, rfl, bt8, hP8⟩
          have j3 : j < 3 := (List.getElem?_eq_some_iff.mp hx).1
          obtain ⟨ji, q, x, sts, t, rfl, ab, am, mt7, mv, gx7, few⟩ := at2 v (List.mem_of_getElem? hx)
          refine at_name (σ' := [some (.ref a), some (.ref p), some (.ref s0), some (.ref lb), some (.ref D), some (.int ji), none]) rfl ?_
          refine ⟨fun b H' => b = false ∧ But p H7 H' ∧ PurseAt H' p (10000 + 4000 * ((j + 1 : Nat) : Int)), ?_, ?_⟩
          · refine ⟨_, rfl, _, rfl, _, rfl, _, rfl, lb, _, ji, _, rfl, rfl, SqL.of (bt8 _ _ nlb hlb7), ab, _, rfl, _, rfl, D, _, ji, _, rfl, rfl, SqL.of (bt8 _ _ nDp hD7), am, p, s0, q, x, td, da, tl, _, ws, f, dl, tw, sts, t, rfl, hP8, by omega, by omega, se7.purse hP7 bt8, mt7.purse hP7 bt8, mv, gx7.purse hP7 bt8, fun H9 bt9 hP9 => ⟨_, rfl, iteF ?_⟩⟩
            have bt79 := bt8.trans bt9
            exact ⟨_, rfl, _, rfl, _, rfl, lb, _, ji, _, rfl, rfl, SqL.of (bt79 _ _ nlb hlb7), ab, _, rfl, _, rfl, D, _, ji, _, rfl, rfl, SqL.of (bt79 _ _ nDp hD7), am, p, q, x, _, sts, _, t, rfl, hP9, by omega, by omega, mt7.purse hP7 bt79, mv, gx7.purse hP7 bt79, by omega, ldl, fun H10 bt10 hP10 => ⟨_, rfl, rfl, bt79.trans bt10, hP10.le (by omega)⟩⟩
          · rintro b H9 ⟨rfl, bt9, hP9⟩
            exact iteF ⟨_, rfl, bt9, hP9⟩
        · rintro σ H8 ⟨x5, rfl, bt8, hP8⟩
          have mA8 := mA7.purse hP7 bt8
          have mB8 := mB7.purse hP7 bt8
          have g18 := g17.purse hP7 bt8
          have g28 := g27.purse hP7 bt8
          have hlb8 := bt8 _ _ nlb hlb7
          have hD8 := bt8 _ _ nDp hD7
          have lt36 : sts1.length * sts2.length < 64 := Nat.lt_of_le_of_lt (Nat.mul_le_mul few1 few2) (by decide)
          have lt36' : sts2.length * sts1.length < 64 := by rw [Nat.mul_comm]; exact lt36
          refine ⟨fun b H' => b = false ∧ L2.Same H8 H', ?_, ?_⟩
          · refine ⟨_, rfl, lb, _, 0, _, rfl, rfl, SqL.of hlb8, atI_nat (j := 0) rfl, _, rfl, lb, _, 1, _, rfl, rfl, SqL.of hlb8, atI_nat (j := 1) rfl, _, rfl, D, _, 0, _, rfl, rfl, SqL.of hD8, atI_nat (j := 0) rfl, _, rfl, D, _, 1, _, rfl, rfl, SqL.of hD8, atI_nat (j := 1) rfl, q1, q2, x1, x2, sts1, sts2, _, t1, t2, rfl, mA8, mv1, mB8, mv2, g18, g28, lt36, fun H9 s9 => ⟨_, rfl, iteF ?_⟩⟩
            exact ⟨_, rfl, lb, _, 1, _, rfl, rfl, SqL.of (s9 _ _ hlb8), atI_nat (j := 1) rfl, _, rfl, lb, _, 0, _, rfl, rfl, SqL.of (s9 _ _ hlb8), atI_nat (j := 0) rfl, _, rfl, D, _, 1, _, rfl, rfl, SqL.of (s9 _ _ hD8), atI_nat (j := 1) rfl, _, rfl, D, _, 0, _, rfl, rfl, SqL.of (s9 _ _ hD8), atI_nat (j := 0) rfl, q2, q1, x2, x1, sts2, sts1, _, t2, t1, rfl, mB8.mono s9, mv2, mA8.mono s9, mv1, g28.mono s9, g18.mono s9, lt36', fun H10 s10 => ⟨_, rfl, rfl, s9.trans s10⟩⟩
          rintro b H9 ⟨rfl, s9⟩
          refine iteF ?_
          have bt : But p H1 H9 := (bt17.trans bt8).same s9
          refine ⟨_, _, _, _, _, rfl, bt _ _ npl hl1, fun j p' hj hp' => ?_⟩
          have npp : p' ≠ p := fun e => by
            rw [e] at hp'
            have h1 : i < ps.length := (List.getElem?_eq_some_iff.mp ep).1
            have := (List.getElem?_inj h1 ndp).mp (ep.trans hp'.symm)
            omega
          obtain ⟨u1, u2, u3, u4, h1, h2⟩ := pu j p' (by omega) hp'
          exact ⟨u1, u2, u3, u4, bt _ _ npp h1, h2⟩
    · rintro σ H' ⟨x1, x2, x3, x4, x5, rfl, _, _⟩
      exact k _
end
end KT
set_option Elab.async false
set_option linter.all false
set_option maxRecDepth 100000
set_option maxHeartbeats 0
namespace KT
open PySem PySem.Spec PyProof.Rows L2
section
variable {K : PySem.W.Frag}
/-- a def of no defaults of the text, as Fun -/
theorem fun_of {x qual : Str} {st : Stmt} {f : Addr} {fd : FuncData} (F : FunD K x qual (defArgs st) (defBody st) (defScope st) [] [] f fd) : Fun K x qual st f fd := by
  obtain ⟨oc, od, dV, kV, doc, pm, an, cdv, ct, osl, e, lk, hcd, hD, _⟩ := F.ex
  rcases hD with ⟨_, rfl⟩ | ⟨z, _⟩
  · exact ⟨⟨oc, od, kV, doc, pm, an, cdv, ct, osl, e, lk, hcd⟩, F.kp⟩
  · exact absurd rfl z
end
theorem facts {P : Program} {w : World} {K : PySem.W.Frag} {h : Heap} {mg : Str → Option Value} {f : Addr} (X : K.In h) (G : h.Ns mainGlobals mg) (hfa : mg ("law" : Str) = some (.ref f)) (c : He.SaysD fa fn K) (m : myB K = true) :
    ∃ fd : FuncData, (∀ (s : Shared) (v : Value), BindsTo s fd ⟨[v], []⟩ [("_law_script", v)]) ∧ ∀ base : Heap, K.In base → base.Ns mainGlobals mg → FnOk P w K mg base CX0 12 f fd ["_law_script"] (spLaw K) := by
  unfold myB at m
  unfold oneB at m
  simp only [Bool.and_eq_true, decide_eq_true_eq] at m
  obtain ⟨m2, m3, gkit, ⟨o1, o4, o5, o6, o7, o8, o9⟩⟩ := m
  have fr : ∀ (i : Nat) (x : Str), fa[i]? = some (.free x) → mg x = none := fun i x e => He.free_ok X G (c.fact i e)
  have gl : ∀ (i : Nat) (x : Str), fa[i]? = some (.glo x) → mg x = some (.ref (He.ga K x)) := fun i x e => He.glo_ok X G (c.fact i e)
  have B : Blt mg := ⟨fr 50 _ rfl, fr 51 _ rfl, fr 52 _ rfl, fr 53 _ rfl, fr 54 _ rfl, fr 55 _ rfl⟩
  have Z : Blp mg := ⟨fr 56 _ rfl, fr 57 _ rfl, fr 58 _ rfl, fr 59 _ rfl, fr 60 _ rfl, fr 61 _ rfl, fr 62 _ rfl, fr 63 _ rfl, He.str_ok X G (c.fact 48 (f := .str "LETTERS" "abcdefghijklmnopqrstuvwxyz") rfl), He.int_ok X G (c.fact 49 (f := .int "LONGEST_WORD" 8) rfl)⟩
  have hz : mg "zip" = none := fr 64 _ rfl
  have han : mg "any" = none := fr 65 _ rfl
  have hset : mg "set" = none := fr 66 _ rfl
  have hrev : mg "reversed" = none := fr 67 _ rfl
  have hen : mg "enumerate" = none := fr 68 _ rfl
  have TG : GTx K mg (goC K) := ⟨He.cls_ok (c.fact 70 (f := .cls "Store") rfl), He.noat_ok (c.fact 71 (f := .noat "Store" "_moves") rfl), gl 69 "Store" rfl⟩
  have MG : Mk K (goC K) (He.fAd K ("Store", some "__init__")) := He.mkr_ok (c.fact 72 (f := .mkr "Store") rfl)
  have TY : GTy K mg (goC K) := ⟨TG, He.eqO_ok o1, He.eqO_ok m2, m3, o4, o5⟩
  have kG : ∀ t ∈ [Value.type "dict", .type "int"], PySem.W.kitOne K t (.ref (goC K)) = some false ∧ PySem.W.notFirst K (goC K) t = true := fun t ht => by
    have q := List.all_eq_true.mp gkit t ht
    rw [Bool.and_eq_true, decide_eq_true_eq] at q
    exact q
  have kgD := kG (.type "dict") List.mem_cons_self
  have kgI := kG (.type "int") (List.mem_cons_of_mem _ List.mem_cons_self)
  obtain ⟨fd0, D0⟩ := c.def_ 0 (d := lawD "is_word" pIsWord) rfl
  have b0 : Binds K fd0 ["value"] [] := FunD.bindsN D0 fun _ _ _ _ _ _ us hl => match us, hl with | [_], _ => rfl
  have g0 := gl 0 "is_word" rfl
  have k0 : PySem.W.keepIn K (.ref (He.fAd K ("is_word", none))) = true := D0.kp
  obtain ⟨fd1, D1⟩ := c.def_ 1 (d := lawD "counting_words" pCntWords) rfl
  have b1 : Binds K fd1 ["many"] [] := FunD.bindsN D1 fun _ _ _ _ _ _ us hl => match us, hl with | [_], _ => rfl
  have g1 := gl 1 "counting_words" rfl
  have k1 : PySem.W.keepIn K (.ref (He.fAd K ("counting_words", none))) = true := D1.kp
  obtain ⟨fd2, D2⟩ := c.def_ 2 (d := lawD "_leads_from_words" pLeads) rfl
  have b2 : Binds K fd2 ["value"] [] := FunD.bindsN D2 fun _ _ _ _ _ _ us hl => match us, hl with | [_], _ => rfl
  have g2 := gl 2 "_leads_from_words" rfl
  have k2 : PySem.W.keepIn K (.ref (He.fAd K ("_leads_from_words", none))) = true := D2.kp
  obtain ⟨fd3, D3⟩ := c.def_ 3 (d := lawD "_are_moves" pAreMoves) rfl
  have b3 : Binds K fd3 ["moves"] [] := FunD.bindsN D3 fun _ _ _ _ _ _ us hl => match us, hl with | [_], _ => rfl
  have g3 := gl 3 "_are_moves" rfl
  have k3 : PySem.W.keepIn K (.ref (He.fAd K ("_are_moves", none))) = true := D3.kp
  obtain ⟨fd4, D4⟩ := c.def_ 4 (d := mthD "Store" "__init__" "Store.__init__" gInit) rfl
  have b4 : Binds K fd4 ["self", "moves"] [] := FunD.bindsN D4 fun _ _ _ _ _ _ us hl => match us, hl with | [_, _], _ => rfl
  obtain ⟨fd5, D5⟩ := c.def_ 5 (d := mthD "Store" "moves" "Store.moves" gMoves) rfl
  have b5 : Binds K fd5 ["self"] [] := FunD.bindsN D5 fun _ _ _ _ _ _ us hl => match us, hl with | [_], _ => rfl
  obtain ⟨fd6, D6⟩ := c.def_ 6 (d := mthD "Store" "states" "Store.states" gStates) rfl
  have b6 : Binds K fd6 ["self"] [] := FunD.bindsN D6 fun _ _ _ _ _ _ us hl => match us, hl with | [_], _ => rfl
  obtain ⟨fd7, D7⟩ := c.def_ 7 (d := mthD "Store" "deeds" "Store.deeds" gDeeds) rfl
  have b7 : Binds K fd7 ["self"] [] := FunD.bindsN D7 fun _ _ _ _ _ _ us hl => match us, hl with | [_], _ => rfl
  obtain ⟨fd8, D8⟩ := c.def_ 8 (d := mthD "Store" "__eq__" "Store.__eq__" gEq) rfl
  have b8 : Binds K fd8 ["self", "other"] [] := FunD.bindsN D8 fun _ _ _ _ _ _ us hl => match us, hl with | [_, _], _ => rfl
  obtain ⟨fd9, D9⟩ := c.def_ 9 (d := lawD "check_store" pCheckStore) rfl
  have b9 : Binds K fd9 ["store"] [] := FunD.bindsN D9 fun _ _ _ _ _ _ us hl => match us, hl with | [_], _ => rfl
  have g9 := gl 4 "check_store" rfl
  have k9 : PySem.W.keepIn K (.ref (He.fAd K ("check_store", none))) = true := D9.kp
  obtain ⟨fd10, D10⟩ := c.def_ 10 (d := lawD "check_log_of_store" pCheckLogS) rfl
  have b10 : Binds K fd10 ["store", "log"] [] := FunD.bindsN D10 fun _ _ _ _ _ _ us hl => match us, hl with | [_, _], _ => rfl
  have g10 := gl 5 "check_log_of_store" rfl
  have k10 : PySem.W.keepIn K (.ref (He.fAd K ("check_log_of_store", none))) = true := D10.kp
  obtain ⟨fd11, D11⟩ := c.def_ 11 (d := lawD "_led" pLed) rfl
  have b11 : Binds K fd11 ["moves", "state", "log"] [] := FunD.bindsN D11 fun _ _ _ _ _ _ us hl => match us, hl with | [_, _, _], _ => rfl
  have g11 := gl 6 "_led" rfl
  have k11 : PySem.W.keepIn K (.ref (He.fAd K ("_led", none))) = true := D11.kp
  obtain ⟨fd12, D12⟩ := c.def_ 12 (d := lawD "behind" pBehind) rfl
  have b12 : Binds K fd12 ["store", "state", "log"] [] := FunD.bindsN D12 fun _ _ _ _ _ _ us hl => match us, hl with | [_, _, _], _ => rfl
  have g12 := gl 7 "behind" rfl
  have k12 : PySem.W.keepIn K (.ref (He.fAd K ("behind", none))) = true := D12.kp
  obtain ⟨fd13, D13⟩ := c.def_ 13 (d := lawD "behind_all" pBehindAll) rfl
  have b13 : Binds K fd13 ["store", "log"] [] := FunD.bindsN D13 fun _ _ _ _ _ _ us hl => match us, hl with | [_, _], _ => rfl
  have g13 := gl 8 "behind_all" rfl
  have k13 : PySem.W.keepIn K (.ref (He.fAd K ("behind_all", none))) = true := D13.kp
  obtain ⟨fd14, D14⟩ := c.def_ 14 (d := lawD "both_names" pBothN) rfl
  have b14 : Binds K fd14 ["one", "other"] [] := FunD.bindsN D14 fun _ _ _ _ _ _ us hl => match us, hl with | [_, _], _ => rfl
  have g14 := gl 9 "both_names" rfl
  have k14 : PySem.W.keepIn K (.ref (He.fAd K ("both_names", none))) = true := D14.kp
  obtain ⟨fd15, D15⟩ := c.def_ 15 (d := lawD "both_stores" pBothS) rfl
  have b15 : Binds K fd15 ["one", "other"] [] := FunD.bindsN D15 fun _ _ _ _ _ _ us hl => match us, hl with | [_, _], _ => rfl
  have g15 := gl 10 "both_stores" rfl
  have k15 : PySem.W.keepIn K (.ref (He.fAd K ("both_stores", none))) = true := D15.kp
  obtain ⟨fd16, D16⟩ := c.def_ 16 (d := lawD "_law_purse" sPurse) rfl
  have b16 : Binds K fd16 ["_law_script", "_law_at"] [] := FunD.bindsN D16 fun _ _ _ _ _ _ us hl => match us, hl with | [_, _], _ => rfl
  have g16 := gl 11 "_law_purse" rfl
  have k16 : PySem.W.keepIn K (.ref (He.fAd K ("_law_purse", none))) = true := D16.kp
  obtain ⟨fd17, D17⟩ := c.def_ 17 (d := lawD "_law_mixed" sMixed) rfl
  have b17 : Binds K fd17 ["_law_seed", "_law_spin", "_law_at"] [] := FunD.bindsN D17 fun _ _ _ _ _ _ us hl => match us, hl with | [_, _, _], _ => rfl
  have g17 := gl 12 "_law_mixed" rfl
  have k17 : PySem.W.keepIn K (.ref (He.fAd K ("_law_mixed", none))) = true := D17.kp
  obtain ⟨fd18, D18⟩ := c.def_ 18 (d := lawD "_law_draw" sDraw) rfl
  have b18 : Binds K fd18 ["_law_purse_here", "_law_many"] [] := FunD.bindsN D18 fun _ _ _ _ _ _ us hl => match us, hl with | [_, _], _ => rfl
  have g18 := gl 13 "_law_draw" rfl
  have k18 : PySem.W.keepIn K (.ref (He.fAd K ("_law_draw", none))) = true := D18.kp
  obtain ⟨fd19, D19⟩ := c.def_ 19 (d := lawD "_law_purses" sPurses) rfl
  have b19 : Binds K fd19 ["_law_script", "_law_few"] [] := FunD.bindsN D19 fun _ _ _ _ _ _ us hl => match us, hl with | [_, _], _ => rfl
  have g19 := gl 14 "_law_purses" rfl
  have k19 : PySem.W.keepIn K (.ref (He.fAd K ("_law_purses", none))) = true := D19.kp
  obtain ⟨fd20, D20⟩ := c.def_ 20 (d := lawD "_law_one_of" sOneOf) rfl
  have b20 : Binds K fd20 ["_law_purse_here", "_law_some"] [] := FunD.bindsN D20 fun _ _ _ _ _ _ us hl => match us, hl with | [_, _], _ => rfl
  have g20 := gl 15 "_law_one_of" rfl
  have k20 : PySem.W.keepIn K (.ref (He.fAd K ("_law_one_of", none))) = true := D20.kp
  obtain ⟨fd21, D21⟩ := c.def_ 21 (d := lawD "_law_exact" sExact) rfl
  have b21 : Binds K fd21 ["_law_mine", "_law_theirs"] [] := FunD.bindsN D21 fun _ _ _ _ _ _ us hl => match us, hl with | [_, _], _ => rfl
  have g21 := gl 16 "_law_exact" rfl
  have k21 : PySem.W.keepIn K (.ref (He.fAd K ("_law_exact", none))) = true := D21.kp
  obtain ⟨fd22, D22⟩ := c.def_ 22 (d := lawD "_law_word" sWord) rfl
  have b22 : Binds K fd22 ["_law_purse_here"] [] := FunD.bindsN D22 fun _ _ _ _ _ _ us hl => match us, hl with | [_], _ => rfl
  have g22 := gl 17 "_law_word" rfl
  have k22 : PySem.W.keepIn K (.ref (He.fAd K ("_law_word", none))) = true := D22.kp
  obtain ⟨fd23, D23⟩ := c.def_ 23 (d := lawD "_law_words" sWords) rfl
  have b23 : Binds K fd23 ["_law_purse_here", "_law_many"] [] := FunD.bindsN D23 fun _ _ _ _ _ _ us hl => match us, hl with | [_, _], _ => rfl
  have g23 := gl 18 "_law_words" rfl
  have k23 : PySem.W.keepIn K (.ref (He.fAd K ("_law_words", none))) = true := D23.kp
  obtain ⟨fd24, D24⟩ := c.def_ 24 (d := lawD "_law_plain_table" sPlain) rfl
  have b24 : Binds K fd24 ["_law_way", "_law_many"] [] := FunD.bindsN D24 fun _ _ _ _ _ _ us hl => match us, hl with | [_, _], _ => rfl
  have g24 := gl 19 "_law_plain_table" rfl
  have k24 : PySem.W.keepIn K (.ref (He.fAd K ("_law_plain_table", none))) = true := D24.kp
  obtain ⟨fd25, D25⟩ := c.def_ 25 (d := lawD "_law_wide_table" sWide) rfl
  have b25 : Binds K fd25 ["_law_told", "_law_many", "_law_way"] [] := FunD.bindsN D25 fun _ _ _ _ _ _ us hl => match us, hl with | [_, _, _], _ => rfl
  have g25 := gl 20 "_law_wide_table" rfl
  have k25 : PySem.W.keepIn K (.ref (He.fAd K ("_law_wide_table", none))) = true := D25.kp
  obtain ⟨fd26, D26⟩ := c.def_ 26 (d := lawD "_law_twofold_table" sTwofold) rfl
  have b26 : Binds K fd26 ["_law_one", "_law_other"] [] := FunD.bindsN D26 fun _ _ _ _ _ _ us hl => match us, hl with | [_, _], _ => rfl
  have g26 := gl 21 "_law_twofold_table" rfl
  have k26 : PySem.W.keepIn K (.ref (He.fAd K ("_law_twofold_table", none))) = true := D26.kp
  obtain ⟨fd27, D27⟩ := c.def_ 27 (d := lawD "_law_twin_table" sTwin) rfl
  have b27 : Binds K fd27 ["_law_told", "_law_many", "_law_twin"] [] := FunD.bindsN D27 fun _ _ _ _ _ _ us hl => match us, hl with | [_, _, _], _ => rfl
  have g27 := gl 22 "_law_twin_table" rfl
  have k27 : PySem.W.keepIn K (.ref (He.fAd K ("_law_twin_table", none))) = true := D27.kp
  obtain ⟨fd28, D28⟩ := c.def_ 28 (d := lawD "_law_leading_table" sLeading) rfl
  have b28 : Binds K fd28 ["_law_told", "_law_many"] [] := FunD.bindsN D28 fun _ _ _ _ _ _ us hl => match us, hl with | [_, _], _ => rfl
  have g28 := gl 23 "_law_leading_table" rfl
  have k28 : PySem.W.keepIn K (.ref (He.fAd K ("_law_leading_table", none))) = true := D28.kp
  obtain ⟨fd29, D29⟩ := c.def_ 29 (d := lawD "_law_cyclic_table" sCyclic) rfl
  have b29 : Binds K fd29 ["_law_many", "_law_lead"] [] := FunD.bindsN D29 fun _ _ _ _ _ _ us hl => match us, hl with | [_, _], _ => rfl
  have g29 := gl 24 "_law_cyclic_table" rfl
  have k29 : PySem.W.keepIn K (.ref (He.fAd K ("_law_cyclic_table", none))) = true := D29.kp
  obtain ⟨fd30, D30⟩ := c.def_ 30 (d := lawD "_law_any_table" sAny) rfl
  have b30 : Binds K fd30 ["_law_purse_here", "_law_many"] [] := FunD.bindsN D30 fun _ _ _ _ _ _ us hl => match us, hl with | [_, _], _ => rfl
  have g30 := gl 25 "_law_any_table" rfl
  have k30 : PySem.W.keepIn K (.ref (He.fAd K ("_law_any_table", none))) = true := D30.kp
  obtain ⟨fd31, D31⟩ := c.def_ 31 (d := lawD "_law_table" sTable) rfl
  have b31 : Binds K fd31 ["_law_purse_here", "_law_most"] [] := FunD.bindsN D31 fun _ _ _ _ _ _ us hl => match us, hl with | [_, _], _ => rfl
  have g31 := gl 26 "_law_table" rfl
  have k31 : PySem.W.keepIn K (.ref (He.fAd K ("_law_table", none))) = true := D31.kp
  obtain ⟨fd32, D32⟩ := c.def_ 32 (d := lawD "_law_kinds_of" sKindsOf) rfl
  have b32 : Binds K fd32 ["_law_table_here"] [] := FunD.bindsN D32 fun _ _ _ _ _ _ us hl => match us, hl with | [_], _ => rfl
  have g32 := gl 27 "_law_kinds_of" rfl
  have k32 : PySem.W.keepIn K (.ref (He.fAd K ("_law_kinds_of", none))) = true := D32.kp
  obtain ⟨fd33, D33⟩ := c.def_ 33 (d := lawD "_law_squares" sSquares) rfl
  have b33 : Binds K fd33 ["_law_table_here"] [] := FunD.bindsN D33 fun _ _ _ _ _ _ us hl => match us, hl with | [_], _ => rfl
  have g33 := gl 28 "_law_squares" rfl
  have k33 : PySem.W.keepIn K (.ref (He.fAd K ("_law_squares", none))) = true := D33.kp
  obtain ⟨fd34, D34⟩ := c.def_ 34 (d := lawD "_law_setting" sSetting) rfl
  have b34 : Binds K fd34 ["_law_purse_here", "_law_most"] [] := FunD.bindsN D34 fun _ _ _ _ _ _ us hl => match us, hl with | [_, _], _ => rfl
  have g34 := gl 29 "_law_setting" rfl
  have k34 : PySem.W.keepIn K (.ref (He.fAd K ("_law_setting", none))) = true := D34.kp
  obtain ⟨fd35, D35⟩ := c.def_ 35 (d := lawD "_law_log" sLog) rfl
  have b35 : Binds K fd35 ["_law_purse_here", "_law_setting_here", "_law_many"] [] := FunD.bindsN D35 fun _ _ _ _ _ _ us hl => match us, hl with | [_, _, _], _ => rfl
  have g35 := gl 30 "_law_log" rfl
  have k35 : PySem.W.keepIn K (.ref (He.fAd K ("_law_log", none))) = true := D35.kp
  obtain ⟨fd36, D36⟩ := c.def_ 36 (d := lawD "_law_same" sSame) rfl
  have b36 : Binds K fd36 ["_law_thing"] [] := FunD.bindsN D36 fun _ _ _ _ _ _ us hl => match us, hl with | [_], _ => rfl
  have g36 := gl 31 "_law_same" rfl
  have k36 : PySem.W.keepIn K (.ref (He.fAd K ("_law_same", none))) = true := D36.kp
  obtain ⟨fd37, D37⟩ := c.def_ 37 (d := lawD "_law_behind" sBehind) rfl
  have b37 : Binds K fd37 ["_law_moves", "_law_state", "_law_log_here"] [] := FunD.bindsN D37 fun _ _ _ _ _ _ us hl => match us, hl with | [_, _, _], _ => rfl
  have g37 := gl 32 "_law_behind" rfl
  have k37 : PySem.W.keepIn K (.ref (He.fAd K ("_law_behind", none))) = true := D37.kp
  obtain ⟨fd38, D38⟩ := c.def_ 38 (d := lawD "_law_kept_store" sKept) rfl
  have b38 : Binds K fd38 ["_law_setting_here"] [] := FunD.bindsN D38 fun _ _ _ _ _ _ us hl => match us, hl with | [_], _ => rfl
  have g38 := gl 33 "_law_kept_store" rfl
  have k38 : PySem.W.keepIn K (.ref (He.fAd K ("_law_kept_store", none))) = true := D38.kp
  obtain ⟨fd39, D39⟩ := c.def_ 39 (d := lawD "_law_last_store" sLast) rfl
  have b39 : Binds K fd39 ["_law_setting_here", "_law_deed"] [] := FunD.bindsN D39 fun _ _ _ _ _ _ us hl => match us, hl with | [_, _], _ => rfl
  have g39 := gl 34 "_law_last_store" rfl
  have k39 : PySem.W.keepIn K (.ref (He.fAd K ("_law_last_store", none))) = true := D39.kp
  obtain ⟨fd40, D40⟩ := c.def_ 40 (d := lawD "_law_spare_words" sSpare) rfl
  have b40 : Binds K fd40 ["_law_words_here"] [] := FunD.bindsN D40 fun _ _ _ _ _ _ us hl => match us, hl with | [_], _ => rfl
  have g40 := gl 35 "_law_spare_words" rfl
  have k40 : PySem.W.keepIn K (.ref (He.fAd K ("_law_spare_words", none))) = true := D40.kp
  obtain ⟨fd41, D41⟩ := c.def_ 41 (d := lawD "_law_ordered_moves" sOrd) rfl
  have b41 : Binds K fd41 ["_law_moves"] [] := FunD.bindsN D41 fun _ _ _ _ _ _ us hl => match us, hl with | [_], _ => rfl
  have g41 := gl 36 "_law_ordered_moves" rfl
  have k41 : PySem.W.keepIn K (.ref (He.fAd K ("_law_ordered_moves", none))) = true := D41.kp
  obtain ⟨fd42, D42⟩ := c.def_ 42 (d := lawD "_law_lent" sLent) rfl
  have b42 : Binds K fd42 ["_law_moves"] [] := FunD.bindsN D42 fun _ _ _ _ _ _ us hl => match us, hl with | [_], _ => rfl
  have g42 := gl 37 "_law_lent" rfl
  have k42 : PySem.W.keepIn K (.ref (He.fAd K ("_law_lent", none))) = true := D42.kp
  obtain ⟨fd43, D43⟩ := c.def_ 43 (d := lawD "_law_store" sStore) rfl
  have b43 : Binds K fd43 ["_law_moves"] [] := FunD.bindsN D43 fun _ _ _ _ _ _ us hl => match us, hl with | [_], _ => rfl
  have g43 := gl 38 "_law_store" rfl
  have k43 : PySem.W.keepIn K (.ref (He.fAd K ("_law_store", none))) = true := D43.kp
  obtain ⟨fd44, D44⟩ := c.def_ 44 (d := lawD "_law_numbered" sNumb) rfl
  have b44 : Binds K fd44 ["_law_at"] [] := FunD.bindsN D44 fun _ _ _ _ _ _ us hl => match us, hl with | [_], _ => rfl
  have g44 := gl 39 "_law_numbered" rfl
  have k44 : PySem.W.keepIn K (.ref (He.fAd K ("_law_numbered", none))) = true := D44.kp
  obtain ⟨fd45, D45⟩ := c.def_ 45 (d := lawD "_law_paired" sPaired) rfl
  have b45 : Binds K fd45 ["_law_one", "_law_other"] [] := FunD.bindsN D45 fun _ _ _ _ _ _ us hl => match us, hl with | [_, _], _ => rfl
  have g45 := gl 40 "_law_paired" rfl
  have k45 : PySem.W.keepIn K (.ref (He.fAd K ("_law_paired", none))) = true := D45.kp
  obtain ⟨fd46, D46⟩ := c.def_ 46 (d := lawD "_law_drawn_moves" sDrawnMv) rfl
  have b46 : Binds K fd46 ["_law_purse_here", "_law_setting_here", "_law_most"] [] := FunD.bindsN D46 fun _ _ _ _ _ _ us hl => match us, hl with | [_, _, _], _ => rfl
  have g46 := gl 41 "_law_drawn_moves" rfl
  have k46 : PySem.W.keepIn K (.ref (He.fAd K ("_law_drawn_moves", none))) = true := D46.kp
  obtain ⟨fd47, D47⟩ := c.def_ 47 (d := lawD "_law_some_moves" sSomeMv) rfl
  have b47 : Binds K fd47 ["_law_purse_here", "_law_setting_here"] [] := FunD.bindsN D47 fun _ _ _ _ _ _ us hl => match us, hl with | [_, _], _ => rfl
  have g47 := gl 42 "_law_some_moves" rfl
  have k47 : PySem.W.keepIn K (.ref (He.fAd K ("_law_some_moves", none))) = true := D47.kp
  obtain ⟨fd48, D48⟩ := c.def_ 48 (d := lawD "_law_right" sRight) rfl
  have b48 : Binds K fd48 ["_law_purse_here", "_law_setting_here", "_law_moves", "_law_store_here"] [] := FunD.bindsN D48 fun _ _ _ _ _ _ us hl => match us, hl with | [_, _, _, _], _ => rfl
  have g48 := gl 43 "_law_right" rfl
  have k48 : PySem.W.keepIn K (.ref (He.fAd K ("_law_right", none))) = true := D48.kp
  obtain ⟨fd49, D49⟩ := c.def_ 49 (d := lawD "_law_both_right" sBothR) rfl
  have b49 : Binds K fd49 ["_law_one", "_law_other", "_law_first", "_law_second"] [] := FunD.bindsN D49 fun _ _ _ _ _ _ us hl => match us, hl with | [_, _, _, _], _ => rfl
  have g49 := gl 44 "_law_both_right" rfl
  have k49 : PySem.W.keepIn K (.ref (He.fAd K ("_law_both_right", none))) = true := D49.kp
  obtain ⟨fd50, D50⟩ := c.def_ 50 (d := lawD "_law_lent_right" sLentR) rfl
  have b50 : Binds K fd50 ["_law_moves"] [] := FunD.bindsN D50 fun _ _ _ _ _ _ us hl => match us, hl with | [_], _ => rfl
  have g50 := gl 45 "_law_lent_right" rfl
  have k50 : PySem.W.keepIn K (.ref (He.fAd K ("_law_lent_right", none))) = true := D50.kp
  obtain ⟨fd51, D51⟩ := c.def_ 51 (d := lawD "_law_equal_right" sEqR) rfl
  have b51 : Binds K fd51 ["_law_purse_here", "_law_moves", "_law_store_here"] [] := FunD.bindsN D51 fun _ _ _ _ _ _ us hl => match us, hl with | [_, _, _], _ => rfl
  have g51 := gl 46 "_law_equal_right" rfl
  have k51 : PySem.W.keepIn K (.ref (He.fAd K ("_law_equal_right", none))) = true := D51.kp
  obtain ⟨fd52, D52⟩ := c.def_ 52 (d := lawD "law" sLaw) rfl
  have bL := FunD.bindsA (ps := ["_law_script"]) D52 fun _ _ _ _ _ _ us hl => match us, hl with | [_], _ => rfl
  have e := hfa.symm.trans (gl 47 "law" rfl)
  cases e
  refine ⟨fd52, fun s v => bL s [v] rfl, fun base iB nB => ?_⟩
  have iw : Cee P w K mg base 1 "is_word" ["value"] spIsWord := ⟨_, fd0, ok_isWord (fun_of D0) B Z, g0, k0, b0⟩
  have cwo : Cee P w K mg base 1 "counting_words" ["many"] spCntWords := ⟨_, fd1, ok_cntWords (fun_of D1) B Z, g1, k1, b1⟩
  have lds : Cee P w K mg base 2 "_leads_from_words" ["value"] spLeads := ⟨_, fd2, ok_leads (fun_of D2) B Z iw, g2, k2, b2⟩
  have arm : Cee P w K mg base 3 "_are_moves" ["moves"] spAreMoves := ⟨_, fd3, ok_areMoves (fun_of D3) B Z lds, g3, k3, b3⟩
  have NG0 : FnOk P w K mg base CX0 4 (He.fAd K ("Store", some "__init__")) fd4 ["self", "moves"] (spGInit (goC K)) := ok_ginit (fun_of D4) TG Z arm
  have NG : GMk P w K mg base (goC K) := ⟨_, fd4, MG, NG0, b4⟩
  have gmv : Mee P w K mg base (goC K) 1 "moves" ["self"] (spGMoves (goC K)) := ⟨_, fd5, He.meth_ok (c.fact 73 (f := .meth "Store" "moves") rfl), ok_gmoves (fun_of D5) TG Z, b5⟩
  have gmvT : Mee P w K mg base (goC K) 1 "moves" ["self"] (spGMovesT (goC K)) := let ⟨⟨f1, fd1, h1, F1, hb1⟩⟩ := gmv; ⟨f1, fd1, h1, F1.imp fun _ _ _ _ h => gmoves_T h, hb1⟩
  have gst : Mee P w K mg base (goC K) 1 "states" ["self"] (spGStates (goC K)) := ⟨_, fd6, He.meth_ok (c.fact 74 (f := .meth "Store" "states") rfl), ok_gstates (fun_of D6) TG Z, b6⟩
  have gde : Mee P w K mg base (goC K) 2 "deeds" ["self"] (spGDeeds (goC K)) := ⟨_, fd7, He.meth_ok (c.fact 75 (f := .meth "Store" "deeds") rfl), ok_gdeeds (fun_of D7) TG Z gst, b7⟩
  have EQG : OwQ.EqC P w K mg base 1 (goC K) (spGEq K (goC K)) := ⟨⟨_, fd8, _, ok_geq (fun_of D8) TY Z, He.eqO_ok o6, o7, b8⟩, He.eqO_ok o8, o4⟩
  have cst : Cee P w K mg base 1 "check_store" ["store"] (spCheckStore (goC K)) := ⟨_, fd9, ok_checkStore (fun_of D9) TY Z, g9, k9, b9⟩
  have cls_ : Cee P w K mg base 3 "check_log_of_store" ["store", "log"] (spCheckLogS (goC K)) := ⟨_, fd10, ok_checkLogS (fun_of D10) TG Z gde, g10, k10, b10⟩
  have led : Cee P w K mg base 1 "_led" ["moves", "state", "log"] spLedT := ⟨_, fd11, ok_Led (fun_of D11), g11, k11, b11⟩
  have bhd : Cee P w K mg base 4 "behind" ["store", "state", "log"] (spBehindS (goC K)) := ⟨_, fd12, ok_behindS (fun_of D12) TG ⟨cst, cls_, gst, gmv, led⟩, g12, k12, b12⟩
  have bal : Cee P w K mg base 4 "behind_all" ["store", "log"] (spBehindAll (goC K)) := ⟨_, fd13, ok_behindAll (fun_of D13) TG ⟨cst, cls_, gst, gmv, led⟩, g13, k13, b13⟩
  have bnm : Cee P w K mg base 3 "both_names" ["one", "other"] (spBothN (goC K)) := ⟨_, fd14, ok_bothN (fun_of D14) B Z hz TG ⟨cst, gst, gde, cwo⟩, g14, k14, b14⟩
  have bst : Cee P w K mg base 6 "both_stores" ["one", "other"] (spBothS (goC K)) := ⟨_, fd15, ok_bothS (fun_of D15) TG ⟨bnm, gmv, gde, NG⟩, g15, k15, b15⟩
  have pu0 : Cee P w K mg base 1 "_law_purse" ["_law_script", "_law_at"] (spPurse K) := ⟨_, fd16, ok_purse (fun_of D16) B, g16, k16, b16⟩
  have mi : Cee P w K mg base 1 "_law_mixed" ["_law_seed", "_law_spin", "_law_at"] spMixed := ⟨_, fd17, ok_mixed (fun_of D17) B, g17, k17, b17⟩
  have dr : Cee P w K mg base 2 "_law_draw" ["_law_purse_here", "_law_many"] spDraw := ⟨_, fd18, ok_draw (fun_of D18) B mi, g18, k18, b18⟩
  have pus : Cee P w K mg base 2 "_law_purses" ["_law_script", "_law_few"] (spPurses K) := ⟨_, fd19, ok_purses (fun_of D19) B pu0, g19, k19, b19⟩
  have one : Cee P w K mg base 3 "_law_one_of" ["_law_purse_here", "_law_some"] spOneOf := ⟨_, fd20, ok_oneof (fun_of D20) B dr, g20, k20, b20⟩
  have exa : Cee P w K mg base 7 "_law_exact" ["_law_mine", "_law_theirs"] (spExact 6) := ⟨_, fd21, ok_exact (fun_of D21) B Z hz g21 k21 b21 6, g21, k21, b21⟩
  have exd : Cee P w K mg base 9 "_law_exact" ["_law_mine", "_law_theirs"] (spExactD 8) := ⟨_, fd21, ok_exactD (fun_of D21) B Z hz g21 k21 b21 8, g21, k21, b21⟩
  have wo : Cee P w K mg base 3 "_law_word" ["_law_purse_here"] spWord := ⟨_, fd22, ok_word (fun_of D22) B dr, g22, k22, b22⟩
  have wos : Cee P w K mg base 4 "_law_words" ["_law_purse_here", "_law_many"] spWords := ⟨_, fd23, ok_words (fun_of D23) B Z.list dr wo, g23, k23, b23⟩
  have tpl : Cee P w K mg base 1 "_law_plain_table" ["_law_way", "_law_many"] spPlain := ⟨_, fd24, ok_plain (fun_of D24) B, g24, k24, b24⟩
  have twi : Cee P w K mg base 1 "_law_wide_table" ["_law_told", "_law_many", "_law_way"] spWide := ⟨_, fd25, ok_wide (fun_of D25) B Z.dict, g25, k25, b25⟩
  have ttw : Cee P w K mg base 1 "_law_twofold_table" ["_law_one", "_law_other"] spTwo := ⟨_, fd26, ok_two (fun_of D26) B, g26, k26, b26⟩
  have ttn : Cee P w K mg base 1 "_law_twin_table" ["_law_told", "_law_many", "_law_twin"] spTwin := ⟨_, fd27, ok_twin (fun_of D27) B Z.list, g27, k27, b27⟩
  have tle : Cee P w K mg base 1 "_law_leading_table" ["_law_told", "_law_many"] spLead := ⟨_, fd28, ok_lead (fun_of D28) B Z.dict, g28, k28, b28⟩
  have tcy : Cee P w K mg base 1 "_law_cyclic_table" ["_law_many", "_law_lead"] spCyc := ⟨_, fd29, ok_cyc (fun_of D29) B, g29, k29, b29⟩
  have tan : Cee P w K mg base 3 "_law_any_table" ["_law_purse_here", "_law_many"] spAnyT := ⟨_, fd30, ok_anyT (fun_of D30) B han dr tcy, g30, k30, b30⟩
  have tab : Cee P w K mg base 5 "_law_table" ["_law_purse_here", "_law_most"] spTable := ⟨_, fd31, ok_table (fun_of D31) B Z.dict Z.sorted ⟨dr, tpl, twi, ttw, ttn, tle, tan, wos⟩, g31, k31, b31⟩
  have kof : Cee P w K mg base 1 "_law_kinds_of" ["_law_table_here"] spKindsOf := ⟨_, fd32, ok_kindsOf (fun_of D32) Z, g32, k32, b32⟩
  have sqr : Cee P w K mg base 2 "_law_squares" ["_law_table_here"] spSquares := ⟨_, fd33, ok_squares (fun_of D33) kof, g33, k33, b33⟩
  have sett : Cee P w K mg base 6 "_law_setting" ["_law_purse_here", "_law_most"] spSetting := ⟨_, fd34, ok_setting (fun_of D34) B Z ⟨tab, kof, sqr, wos, dr, one, hen⟩, g34, k34, b34⟩
  have lgg : Cee P w K mg base 4 "_law_log" ["_law_purse_here", "_law_setting_here", "_law_many"] spLog := ⟨_, fd35, ok_log (fun_of D35) B Z dr one, g35, k35, b35⟩
  have sam : Cee P w K mg base 4 "_law_same" ["_law_thing"] (spSame 3) := ⟨_, fd36, ok_same (fun_of D36) Z g36 k36 b36 3, g36, k36, b36⟩
  have beh : Cee P w K mg base 1 "_law_behind" ["_law_moves", "_law_state", "_law_log_here"] spLedT := ⟨_, fd37, ok_BehL (fun_of D37), g37, k37, b37⟩
  have kep : Cee P w K mg base 2 "_law_kept_store" ["_law_setting_here"] spKM := ⟨_, fd38, ok_keptM (fun_of D38) Z hen kof, g38, k38, b38⟩
  have las : Cee P w K mg base 1 "_law_last_store" ["_law_setting_here", "_law_deed"] spLast := ⟨_, fd39, ok_last (fun_of D39) Z, g39, k39, b39⟩
  have spa : Cee P w K mg base 1 "_law_spare_words" ["_law_words_here"] spSpare := ⟨_, fd40, ok_spare (fun_of D40) Z, g40, k40, b40⟩
  have ord_ : Cee P w K mg base 1 "_law_ordered_moves" ["_law_moves"] spOrd := ⟨_, fd41, ok_ord (fun_of D41) Z, g41, k41, b41⟩
  have len_ : Cee P w K mg base 1 "_law_lent" ["_law_moves"] spLent := ⟨_, fd42, ok_lent (fun_of D42) B Z hen, g42, k42, b42⟩
  have sto : Cee P w K mg base 6 "_law_store" ["_law_moves"] (spSto (goC K)) := ⟨_, fd43, ok_sto (fun_of D43) TG NG len_, g43, k43, b43⟩
  have num : Cee P w K mg base 1 "_law_numbered" ["_law_at"] spNumb := ⟨_, fd44, ok_numb (fun_of D44) B Z, g44, k44, b44⟩
  have par_ : Cee P w K mg base 2 "_law_paired" ["_law_one", "_law_other"] spPaired := ⟨_, fd45, ok_paired (fun_of D45) Z hen num, g45, k45, b45⟩
  have drm : Cee P w K mg base 5 "_law_drawn_moves" ["_law_purse_here", "_law_setting_here", "_law_most"] spDrawnMv := ⟨_, fd46, ok_drMv (fun_of D46) Z dr wos one, g46, k46, b46⟩
  have som : Cee P w K mg base 6 "_law_some_moves" ["_law_purse_here", "_law_setting_here"] spSomeMv := ⟨_, fd47, ok_someMv (fun_of D47) B Z ⟨dr, one, kep, las, kof, par_, sam, drm⟩, g47, k47, b47⟩
  have rig : Cee P w K mg base 10 "_law_right" ["_law_purse_here", "_law_setting_here", "_law_moves", "_law_store_here"] (spRight (goC K)) := ⟨_, fd48, ok_right (fun_of D48) B Z TG ⟨dr, lgg, exd, gmvT, gst, gde, ord_, beh, bhd, bal⟩, g48, k48, b48⟩
  have bor : Cee P w K mg base 10 "_law_both_right" ["_law_one", "_law_other", "_law_first", "_law_second"] (spBothR (goC K)) := ⟨_, fd49, ok_bothR (fun_of D49) Z TY ⟨par_, bst, bnm, exd, gmvT, ord_, EQG, o9⟩, g49, k49, b49⟩
  have ler : Cee P w K mg base 10 "_law_lent_right" ["_law_moves"] spLentR := ⟨_, fd50, ok_lentR (fun_of D50) Z TY ⟨len_, NG, ord_, beh, bal, exd, gmvT, gst, gde, sto, EQG, o9⟩, g50, k50, b50⟩
  have eqr : Cee P w K mg base 11 "_law_equal_right" ["_law_purse_here", "_law_moves", "_law_store_here"] (spEqR (goC K)) := ⟨_, fd51, ok_eqR (fun_of D51) Z TY ⟨one, sam, spa, NG, exd, sto, ler, EQG, o9, kgD.2, kgI.2, kgD.1, kgI.1⟩, g51, k51, b51⟩
  exact ok_law (fun_of D52) ⟨pus, sett, som, sto, rig, eqr, bor⟩
end KT
open PySem PySem.W PySem.Calls PyProof.Rows
set_option maxRecDepth 100000 in
set_option maxHeartbeats 0 in
theorem PySem.Challenge.cw_kindtwice_k29_whole_stores_and_both_holds : PySem.Challenge.rw_kindtwice_k29_whole_stores_and_both.Holds := by
  w_on; o_law
  refine HandSHeadRun.head_any (r := OpenLaw.row PySem.Challenge.rw_kindtwice_k29_whole_stores_and_both) (q := view (OpenLaw.row PySem.Challenge.rw_kindtwice_k29_whole_stores_and_both).prog [60]) (H := KT.hk) (ob := KT.ob) (M := 60000) (loose := KT.loose) (d := HandSHeadRun.topDef (OpenLaw.row PySem.Challenge.rw_kindtwice_k29_whole_stores_and_both).prog 60) (kwd := []) KT.ob_eq
    (by kernel_rfl) (fun s => by kernel_rfl) KT.run (by kernel_rfl) (by kernel_rfl) (by kernel_rfl) (by rfl) (by first | assumption | decide +kernel) (by decide +kernel) ⟨rfl, rfl, rfl, rfl, rfl, by decide +kernel⟩ ?hw ?hc
  case hw => w_witness2
  case hc =>
    refine L2.walk_ofE (l := PySem.Challenge.rw_kindtwice_k29_whole_stores_and_both) (n := 63) (k := 12) (x := "_law_script") (CX := L2.CX0) rfl (by decide) (by kernel_rfl) ⟨rfl, by decide, by decide⟩ ?F (fun _ _ _ _ z => z)
    intro w mg fa h Y G hmg0
    obtain ⟨K, KX, c, m⟩ := Y
    have hmg : mg ("law" : PySem.Str) = some (.ref fa) := by
      have e : (HandSHeadRun.topDef (OpenLaw.row PySem.Challenge.rw_kindtwice_k29_whole_stores_and_both).prog 60).name = ("law" : PySem.Str) := by kernel_rfl
      rw [← e]
      exact hmg0
    obtain ⟨fd, hb, hF⟩ := KT.facts (P := (PySem.Challenge.rw_kindtwice_k29_whole_stores_and_both).prog) (w := w) KX G hmg c m
    exact ⟨K, fd, KT.spLaw K, KX, hb, fun H a ns hl _ hS => ⟨a, ns, rfl, hS, hl, fun _ => rfl⟩, hF⟩
#print axioms PySem.Challenge.cw_kindtwice_k29_whole_stores_and_both_holds
