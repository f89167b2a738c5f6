import PyProof.Rows.All
import Wide.All
import OpenK.AllK
import Wide.FinOn
import HandS.ForMost
import HandS.Wide
import HandS.WideBits
import HandS.Defaults
import HandS.Style
import HandS.Base
import HandS.Call
import HandS.Exc
import HandS.ExcInit
import KE.KExcIs
import HandS.MakeKw
import HandS.IsInst
import PyProof.ReprRoads
import PyProof.ReprLen
import HandS.HeadEnd
import KE.KStateDown
import HandS.Head0
import HandS.Head1
import HandS.Head2
import HandS.HeadHook1
import HandS.HeadHook2
import PySem.Challenge.RW_kindtwice_k01_errors_made
set_option Elab.async false
set_option maxRecDepth 100000
namespace KT
open PySem L2 PyProof.Rows
/-! ### the text by places -/
def top (i : Nat) : Stmt := PySem.Challenge.pw_kindtwice_k01_errors_made.main.body.getD i (.Pass ⟨0, 0, 0, 0⟩)
abbrev sPurse : Stmt := top 31
abbrev sMixed : Stmt := top 32
abbrev sDraw : Stmt := top 33
abbrev sPurses : Stmt := top 34
abbrev sOneOf : Stmt := top 35
abbrev sWord : Stmt := top 36
/-- the built-in names that the law leaves alone -/
structure Blt (mg : Str → Option Value) : Prop where
  int : mg "int" = none
  max : mg "max" = none
  min : mg "min" = none
  sum : mg "sum" = none
  len : mg "len" = none
  range : mg "range" = none
/-- a def of the text as its callers know it -/
structure Cee (P : Program) (w : World) (K : PySem.W.Frag) (mg : Str → Option Value) (base : Heap) (k : Nat) (x : Str) (ps : List Str) (sp : Sp) : Prop where
  ex : ∃ (f : Addr) (fd : FuncData), FnOk P w K mg base CX0 k f fd ps sp ∧ mg x = some (.ref f) ∧ PySem.W.keepIn K (.ref f) = true ∧ Binds K fd ps []
section
variable {X : Cx} {k j : Nat} {x : Str} {ps : List Str} {sp : Sp} {p pos : Pos} {e : Expr} {es : List Expr} {t : TA}
theorem pe_c (C : Cee X.prog X.w X.K X.mg X.base k x ps sp) (hr : Room j X.A) (hg : Gl X x) (ha : PA X (e :: es) t) (hkj : k ≤ j := by decide)
    (hdb : (x == ("__debug__" : Str)) = false := by decide) (he : starEach (e :: es) X.env = (false, eval e X.env) :: starEach es X.env := by rfl) (hpl : (backTo pos (starEach es X.env)).any (·.1) = false := by rfl) :
    PE X (.Call (.Name x p) (e :: es) [] pos) (tCall sp [] E0 t) := by
  obtain ⟨f, fd, F, m, kp, b⟩ := C.ex
  exact pe_call F (hr.mono hkj) hg m kp b .nil pass0 ha hdb he hpl
theorem pe_c0 (C : Cee X.prog X.w X.K X.mg X.base k x ps sp) (hr : Room j X.A) (hg : Gl X x) (hkj : k ≤ j := by decide)
    (hdb : (x == ("__debug__" : Str)) = false := by decide) : PE X (.Call (.Name x p) [] [] pos) (tCall sp [] E0 tNil) := by
  obtain ⟨f, fd, F, m, kp, b⟩ := C.ex
  exact pe_call0 F (hr.mono hkj) hg m kp b .nil pass0 hdb
/-- ** of an int of any size to a written power -/
theorem op_powW : OpR X (binaryOp .Pow) (rI (fun i j => 0 ≤ j ∧ (Builtin.Int.intBits i : Int) * j ≤ 2 ^ 27) fun i j => .int (i ^ j.toNat)) := opI fun _ _ _ _ _ _ _ hc q => pow_int hc.1 hc.2 q
end
/-! ### purses -/
def PurseAt (H : Hp) (p : Addr) (B : Int) : Prop := ∃ a b c d : Int, H p = some (.lst [.int a, .int b, .int c, .int d]) ∧ 0 ≤ b ∧ b < 2147483629 ∧ 0 ≤ c ∧ c ≤ B
/-- all but what stands at p is as it was -/
def But (p : Addr) (H H' : Hp) : Prop := ∀ b o, b ≠ p → H b = some o → H' b = some o
theorem But.refl (p : Addr) (H : Hp) : But p H H := fun _ _ _ h => h
theorem But.trans {p : Addr} {H H1 H2 : Hp} (a : But p H H1) (b : But p H1 H2) : But p H H2 := fun c o n h => b c o n (a c o n h)
theorem But.upd {p : Addr} {H H1 : Hp} {o : HO} (a : But p H H1) : But p H (upd H1 p o) := fun c u n h => by
  rw [upd_ne n]
  exact a c u n h
theorem But.new {p q : Addr} {H H1 : Hp} {o : HO} (a : But p H H1) (hq : H1 q = none) : But p H (L2.upd H1 q o) := fun c u n h => by
  rw [upd_ne (ne_of_none (a c u n h) hq)]
  exact a c u n h
def spPurse (K : PySem.W.Frag) : Sp := fun vs H Q _ => ∃ (a : Addr) (ns : List Int) (i : Nat), vs = [.ref a, .int i] ∧ SqL K H a (ns.map V.int) ∧ i ≤ 63 ∧ ∀ (p : Addr) (H' : Hp), Same H H' → H p = none → PurseAt H' p 0 → Q (.ref p) H'
def spMixed : Sp := fun vs H Q _ => ∃ s n t : Int, vs = [.int s, .int n, .int t] ∧ -(2 ^ 64) < n ∧ n < 2 ^ 64 ∧ ∀ r : Int, Q (.int r) H
def spDraw : Sp := fun vs H Q _ => ∃ (p : Addr) (m B : Int), vs = [.ref p, .int m] ∧ PurseAt H p B ∧ 0 ≤ B ∧ B ≤ 1000000 ∧ 0 < m ∧ m < 2 ^ 110 ∧ ∀ (r : Int) (H' : Hp), But p H H' → PurseAt H' p (B + 4) → 0 ≤ r → r < m → Q (.int r) H'
section
variable {P : Program} {w : World} {K : PySem.W.Frag} {mg : Str → Option Value} {base : Heap}
theorem scMixed : FnScope ["_law_seed", "_law_spin", "_law_at", "_law_mixed_here"] ["_law_seed", "_law_spin", "_law_at"] (defScope sMixed) := ⟨rfl, rfl, rfl, by decide +kernel, rfl, by decide +kernel, by decide +kernel⟩
theorem ok_mixed {f : Addr} {fd : FuncData} (F : Fun K "_law_mixed" "_law_mixed" sMixed f fd) (T : Blt mg) : FnOk P w K mg base CX0 1 f fd ["_law_seed", "_law_spin", "_law_at"] spMixed := by
  refine F.ok scMixed (fun vs H Q E h => ?_) (fun cdv A outer s H vs Q E hr h => ?_)
  · obtain ⟨s, n, t, rfl, _⟩ := h
    rfl
  · obtain ⟨s, n, t, rfl, n1, n2, k⟩ := h
    refine ⟨_, pss_cons (ps_set (i := 3) scMixed.nd rfl (Or.inl rfl) (pe_op op_add (pe_op op_mul (pv 0) pe_int) (pe_op op_mul (pe_op op_mul pe_int (pv 1)) (pv 1))))
      (pss_cons (ps_set (i := 3) scMixed.nd rfl (Or.inl rfl) (pe_op op_mod (pe_callTy call_int1 (by rfl) T.int boot_int (pa_cons (pe_op op_add (pe_op op_add (pv 3) (pe_op op_mul pe_int (pv 2))) (pv 1)) pa_nil)) pe_int))
      (pss_cons (ps_set (i := 3) scMixed.nd rfl (Or.inl rfl) (pe_op op_mod (pe_callTy call_int1 (by rfl) T.int boot_int (pa_cons (pe_op op_add (pe_op op_mul (pv 3) (pv 3)) pe_int) pa_nil)) pe_int))
      (pss_one (ps_ret (pe_op op_mod (pe_callTy call_int1 (by rfl) T.int boot_int (pa_cons (pe_op op_mul (pv 3) pe_int) pa_nil)) pe_int))))), ?_⟩
    refine ⟨_, rfl, _, _, rfl, rfl, .inr (by decide), _, rfl, _, _, rfl, rfl, .inl (by decide), _, rfl, _, _, rfl, rfl, .inr ⟨n1, n2⟩, _, _, rfl, rfl, ?_⟩
    refine ⟨_, rfl, _, rfl, _, _, rfl, rfl, .inl (by decide), _, _, rfl, rfl, _, rfl, _, _, rfl, rfl, .inl ⟨_, rfl, _, _, rfl, rfl, (by show (0 : Int) < 2147483647; decide), ?_⟩⟩
    generalize hx : (s * 69069 + 104729 * n * n + 7919 * t + n) % 2147483647 = x
    have x1 : 0 ≤ x ∧ x < 2147483647 := by subst hx; omega
    refine ⟨_, rfl, _, rfl, _, _, rfl, rfl, .inl (by omega), _, _, rfl, rfl, .inl ⟨_, rfl, _, _, rfl, rfl, (by show (0 : Int) < 2147483629; decide), ?_⟩⟩
    exact ⟨_, rfl, _, _, rfl, rfl, .inr (by decide), .inl ⟨_, rfl, _, _, rfl, rfl, (by show (0 : Int) < 2147483587; decide), k _⟩⟩
theorem intBits_le110 {m : Int} (h : 0 < m) (h2 : m < 2 ^ 110) : (Builtin.Int.intBits m : Nat) / 28 ≤ 3 := by
  have b := PyProof.Rows.intBits_le (a := m) (k := 110) (by omega)
  omega
theorem scDraw : FnScope ["_law_purse_here", "_law_many", "_law_drawn", "_law_found", "_law_piece"] ["_law_purse_here", "_law_many"] (defScope sDraw) := ⟨rfl, rfl, rfl, by decide +kernel, rfl, by decide +kernel, by decide +kernel⟩
theorem ok_draw {f : Addr} {fd : FuncData} (F : Fun K "_law_draw" "_law_draw" sDraw f fd) (T : Blt mg) (M : Cee P w K mg base 1 "_law_mixed" ["_law_seed", "_law_spin", "_law_at"] spMixed) : FnOk P w K mg base CX0 2 f fd ["_law_purse_here", "_law_many"] spDraw := by
  refine F.ok scDraw (fun vs H Q E h => ?_) (fun cdv A outer s H vs Q E hr h => ?_)
  · obtain ⟨p, m, B, rfl, _⟩ := h
    rfl
  · obtain ⟨p, m, B, rfl, ⟨a, b, c, d, hp, b0, b1, c0, c1⟩, B0, B1, m0, m1, k⟩ := h
    have nd := scDraw.nd
    refine ⟨_, pss_cons (ps_if (pt_cmpR op_gt (pe_ix ix_list (pv 0) pe_int (fun _ _ => rfl)) pe_int (nomark _))
        (pss_cons (ps_set (i := 2) nd rfl (Or.inl rfl) (pe_op op_mod (pe_callTy call_int1 (by rfl) T.int boot_int (pa_cons (pe_ix ix_list (pv 0) pe_int (fun _ _ => rfl)) pa_nil)) (pv 1)))
          (pss_cons (ps_asg (pe_op op_fdivW (pe_ix ix_list (pv 0) pe_int (fun _ _ => rfl)) (pv 1)) (pg_sub (pv 0) pe_int set_list))
            (pss_one (ps_ret (pv 2)))))
        pss_nil)
      (pss_cons (ps_set (i := 3) nd rfl (Or.inl rfl) pe_int)
      (pss_cons (ps_for PassesOwn.never rfl (pi_range1 rfl T.range (pa_cons (pe_op op_add pe_int (pe_op op_fdiv (pe_bits (pv 1)) pe_int)) pa_nil)) (pg_name (i := 4) nd rfl (Or.inl rfl))
        (pss_cons (ps_asg (pe_op op_add (pe_ix ix_list (pv 0) pe_int (fun _ _ => rfl)) pe_int) (pg_sub (pv 0) pe_int set_list))
          (pss_one (ps_set (i := 3) nd rfl (Or.inl rfl) (pe_op op_add (pe_op op_mul (pv 3) pe_int)
            (pe_c M hr rfl (pa_cons (pe_ix ix_list (pv 0) pe_int (fun _ _ => rfl)) (pa_cons (pe_ix ix_list (pv 0) pe_int (fun _ _ => rfl)) (pa_cons (pe_ix ix_list (pv 0) pe_int (fun _ _ => rfl)) pa_nil)))))))))
      (pss_one (ps_ret (pe_op op_mod (pe_callTy call_int1 (by rfl) T.int boot_int (pa_cons (pv 3) pa_nil)) (pv 1)))))), ?_⟩
    have hS : SqL K H p [.int a, .int b, .int c, .int d] := SqL.of hp
    refine ⟨_, rfl, _, _, _, _, rfl, rfl, hS, atI_nat (j := 0) rfl, _, _, rfl, rfl, _, rfl, ?_⟩
    refine ite2 (fun _ => ?_) (fun _ => ?_)
    · refine ⟨_, rfl, _, _, _, _, rfl, rfl, hS, atI_nat (j := 0) rfl, .inl ⟨_, rfl, _, rfl, _, _, rfl, rfl, m0, ?_⟩⟩
      refine ⟨_, rfl, _, _, _, _, rfl, rfl, hS, atI_nat (j := 0) rfl, _, rfl, _, _, rfl, rfl, ⟨m0, ?_⟩, ?_⟩
      · exact Nat.lt_of_lt_of_le (PySem.Flt.log2_lt_of (k := 110) (by decide) (by omega)) (by decide)
      refine ⟨_, rfl, _, _, _, 0, rfl, rfl, hp, rfl, ?_⟩
      refine ⟨_, rfl, k _ _ ?_ ?_ ?_ ?_⟩
      · exact (But.refl p H).upd
      · exact ⟨_, _, _, _, upd_same, b0, b1, c0, by omega⟩
      · exact Int.emod_nonneg _ (by omega)
      · exact Int.emod_lt_of_pos _ m0
    · refine ⟨_, rfl, _, rfl, _, _, rfl, rfl, (by show (0 : Int) < 28 ∧ (28 : Int) < 1073741824; decide), _, _, rfl, rfl, _, rfl, ?_⟩
      have hb := intBits_le110 m0 m1
      generalize hn : (1 + ((Builtin.Int.intBits m : Nat) : Int) / 28) = n
      have n4 : n ≤ 4 := by omega
      have n0 : 0 ≤ n := by omega
      refine ⟨by omega, by omega, ?_⟩
      refine for_range (lo := 0) (n := n.toNat) (fun i σ H' => ∃ (fo : Int) (x2 x4 : Option V), σ = [some (.ref p), some (.int m), x2, some (.int fo), x4] ∧ But p H H' ∧ i ≤ 4 ∧
        ∃ a2 c2 : Int, H' p = some (.lst [.int a2, .int b, .int c2, .int d]) ∧ 0 ≤ c2 ∧ c2 ≤ c + i) ?_ ?_ ?_
      · exact ⟨0, _, _, rfl, But.refl p H, by omega, a, c, hp, c0, by omega⟩
      · rintro i σ H1 hi ⟨fo, x2, x4, rfl, bt, i4, a2, c2, h1, c20, c21⟩
        have h1S : SqL K H1 p [.int a2, .int b, .int c2, .int d] := SqL.of h1
        refine ⟨_, rfl, _, _, _, _, rfl, rfl, h1S, atI_nat (j := 2) rfl, _, _, rfl, rfl, _, rfl, _, _, _, 2, rfl, rfl, h1, rfl, ?_⟩
        have h2 : upd H1 p (.lst [.int a2, .int b, .int (c2 + 1), .int d]) p = some (.lst [.int a2, .int b, .int (c2 + 1), .int d]) := upd_same
        have h2S : SqL K (upd H1 p (.lst [.int a2, .int b, .int (c2 + 1), .int d])) p [.int a2, .int b, .int (c2 + 1), .int d] := SqL.of h2
        refine ⟨_, rfl, _, _, rfl, rfl, .inr (by decide), ?_⟩
        refine ⟨_, rfl, _, _, _, _, rfl, rfl, h2S, atI_nat (j := 1) rfl, ?_⟩
        refine ⟨_, rfl, _, _, _, _, rfl, rfl, h2S, atI_nat (j := 2) rfl, ?_⟩
        refine ⟨_, rfl, _, _, _, _, rfl, rfl, h2S, atI_nat (j := 3) rfl, ?_⟩
        refine ⟨_, _, _, rfl, by omega, by omega, fun r => ⟨_, _, rfl, rfl, ?_⟩⟩
        exact ⟨_, _, _, rfl, bt.upd, by omega, a2, c2 + 1, h2, by omega, by omega⟩
      · rintro σ H1 ⟨fo, x2, x4, rfl, bt, _, a2, c2, h1, c20, c21⟩
        refine ⟨_, rfl, .inl ⟨_, rfl, _, rfl, _, _, rfl, rfl, m0, ?_⟩⟩
        refine k _ _ bt ⟨_, _, _, _, h1, b0, b1, c20, by omega⟩ ?_ ?_
        · exact Int.emod_nonneg _ (by omega)
        · exact Int.emod_lt_of_pos _ m0
/-! ### _law_purse -/
theorem cut_ints (ns : List Int) (lo hi : Option Int) : ∃ ms : List Int, cutV (ns.map V.int) lo hi = ms.map V.int := by
  unfold cutV
  rw [← List.map_drop, ← List.map_take]
  exact ⟨_, rfl⟩
theorem scPurse : FnScope ["_law_script", "_law_at", "_law_seed"] ["_law_script", "_law_at"] (defScope sPurse) := ⟨rfl, rfl, rfl, by decide +kernel, rfl, by decide +kernel, by decide +kernel⟩
theorem pow18 : CPow 10 18 := ⟨by decide, by decide, by decide⟩
theorem pow60 : CPow 10 60 := ⟨by decide, by decide, by decide⟩
theorem pow480 : (0 : Int) ≤ 8 ∧ (Builtin.Int.intBits ((10 : Int) ^ (60 : Int).toNat) : Int) * 8 ≤ 2 ^ 27 := by
  have b := PyProof.Rows.intBits_le (a := (10 : Int) ^ (60 : Int).toNat) (k := 300) (by decide +kernel)
  omega
theorem pos480 : (0 : Int) < ((10 : Int) ^ (60 : Int).toNat) ^ (8 : Int).toNat := by decide +kernel
theorem ok_purse {f : Addr} {fd : FuncData} (F : Fun K "_law_purse" "_law_purse" sPurse f fd) (T : Blt mg) : FnOk P w K mg base CX0 1 f fd ["_law_script", "_law_at"] (spPurse K) := by
  refine F.ok scPurse (fun vs H Q E h => ?_) (fun cdv A outer s H vs Q E hr h => ?_)
  · obtain ⟨a, ns, i, rfl, _⟩ := h
    rfl
  · obtain ⟨a, ns, i, rfl, hS, hi, k⟩ := h
    have nd := scPurse.nd
    refine ⟨_, pss_cons (ps_set (i := 2) nd rfl (Or.inl rfl) (pe_callB (cr_sum rfl) (by rfl) T.sum (by decide +kernel) (pa_cons (pe_slice sl_list (pv 0) (po_some (pv 1)) (po_some (pe_op op_add (pv 1) pe_int))) pa_nil)))
      (pss_one (ps_ret (pe_lst
        (pa_cons (pe_op op_mod (pe_callTy call_int1 (by rfl) T.int boot_int (pa_cons (pe_callB (call_max2 rfl) (by rfl) T.max boot_max (pa_cons (pe_op op_sub (pv 2) (pe_op op_pow pe_int pe_int)) (pa_cons pe_int pa_nil))) pa_nil)) (pe_op op_powW (pe_op op_pow pe_int pe_int) pe_int))
        (pa_cons (pe_op op_mod (pe_callTy call_int1 (by rfl) T.int boot_int (pa_cons (pv 2) pa_nil)) pe_int)
        (pa_cons pe_int (pa_cons (pv 1) pa_nil))))))), ?_⟩
    refine ⟨_, rfl, _, rfl, _, rfl, _, rfl, _, _, rfl, rfl, _, rfl, a, _, rfl, hS, fun p hp => ?_⟩
    obtain ⟨ms, hm⟩ := cut_ints ns (some (i : Int)) (some ((i : Int) + 1))
    have hpS : SqL K (upd H p (.lst (cutV (ns.map V.int) (some (i : Int)) (some ((i : Int) + 1))))) p (ms.map V.int) := SqL.of (by rw [← hm]; exact upd_same)
    refine ⟨p, ms, rfl, hpS, ?_⟩
    refine ⟨_, rfl, _, _, rfl, rfl, pow18, _, _, rfl, rfl, _, _, rfl, .inl ⟨_, rfl, ?_⟩⟩
    refine ⟨_, _, rfl, rfl, pow60, _, _, rfl, rfl, pow480, _, _, rfl, rfl, pos480, ?_⟩
    refine ⟨_, rfl, .inl ⟨_, rfl, _, _, rfl, rfl, (by show (0 : Int) < 2147483629; decide), ?_⟩⟩
    refine ⟨_, rfl, (by show 4 ≤ sizeLine; decide), fun q hq => ?_⟩
    have np : q ≠ p := fun e => by
      rw [e, upd_same] at hq
      cases hq
    have hq0 : H q = none := by
      rw [upd_ne np] at hq
      exact hq
    refine k q _ (fun b o e => ?_) hq0 ⟨_, _, _, _, upd_same, ?_, ?_, by decide, by decide⟩
    · rw [upd_ne (ne_of_none e hq0), upd_ne (ne_of_none e hp)]
      exact e
    · exact Int.emod_nonneg _ (by decide)
    · exact Int.emod_lt_of_pos _ (by decide)
/-! ### _law_one_of: one of some, by a draw -/
def spOneOf : Sp := fun vs H Q _ => ∃ (p l : Addr) (xs : List V) (B : Int), vs = [.ref p, .ref l] ∧ p ≠ l ∧ PurseAt H p B ∧ 0 ≤ B ∧ B ≤ 1000000 ∧ H l = some (.lst xs) ∧ 0 < xs.length ∧ xs.length ≤ 1000 ∧
  ∀ (x : V) (H' : Hp), x ∈ xs → But p H H' → PurseAt H' p (B + 4) → Q x H'
theorem scOneOf : FnScope ["_law_purse_here", "_law_some"] ["_law_purse_here", "_law_some"] (defScope sOneOf) := ⟨rfl, rfl, rfl, by decide +kernel, rfl, by decide +kernel, by decide +kernel⟩
theorem ok_oneof {f : Addr} {fd : FuncData} (F : Fun K "_law_one_of" "_law_one_of" sOneOf f fd) (T : Blt mg) (D : Cee P w K mg base 2 "_law_draw" ["_law_purse_here", "_law_many"] spDraw) : FnOk P w K mg base CX0 3 f fd ["_law_purse_here", "_law_some"] spOneOf := by
  refine F.ok scOneOf (fun vs H Q E h => ?_) (fun cdv A outer s H vs Q E hr h => ?_)
  · obtain ⟨p, l, xs, B, rfl, _⟩ := h
    rfl
  · obtain ⟨p, l, xs, B, rfl, npl, hP, B0, B1, hl, l0, l1, k⟩ := h
    refine ⟨_, pss_one (ps_ret (pe_ix ix_list (pv 1) (pe_c D hr rfl (pa_cons (pv 0) (pa_cons (pe_callB call_len_seq (by rfl) T.len PySem.boot_len (pa_cons (pv 1) pa_nil)) pa_nil))) (fun _ _ => rfl))), ?_⟩
    refine ⟨_, rfl, _, rfl, _, rfl, l, _, rfl, .inl (SqL.of hl), ?_⟩
    refine ⟨p, _, B, rfl, hP, B0, B1, by omega, by omega, fun r H' bt hP' r0 r1 => ?_⟩
    obtain ⟨j, rfl⟩ : ∃ j : Nat, r = j := ⟨r.toNat, by omega⟩
    have hj : j < xs.length := by omega
    exact ⟨l, xs, _, xs[j], rfl, rfl, SqL.of (bt l _ npl.symm hl), atI_nat (by simp [hj]), k _ _ (List.getElem_mem hj) bt hP'⟩
/-! ### _law_word -/
/-- a word: one to eight letters from a to z -/
def Wd (x : Str) : Prop := 1 ≤ x.length ∧ x.length ≤ 8 ∧ ∀ c ∈ x.cps.toList, 97 ≤ c ∧ c ≤ 122
def Letter (x : Str) : Prop := ∃ c : Nat, x = ⟨#[c]⟩ ∧ 97 ≤ c ∧ c ≤ 122
theorem wd_join : ∀ ys : List Str, (∀ y ∈ ys, Letter y) → (Str.join ⟨#[]⟩ ys).length = ys.length ∧ ∀ c ∈ (Str.join ⟨#[]⟩ ys).cps.toList, 97 ≤ c ∧ c ≤ 122 := by
  intro ys
  induction ys with
  | nil => intro _; exact ⟨rfl, fun c hc => by cases hc⟩
  | cons y ys ih =>
    intro h
    obtain ⟨c, rfl, c1, c2⟩ := h y List.mem_cons_self
    obtain ⟨e1, e2⟩ := ih fun z hz => h z (List.mem_cons_of_mem _ hz)
    cases ys with
    | nil => exact ⟨rfl, fun d hd => by
        have : d = c := by simpa [Str.join] using hd
        omega⟩
    | cons z zs =>
      have e : Str.join ⟨#[]⟩ (⟨#[c]⟩ :: z :: zs) = (⟨#[c]⟩ : Str) ++ (⟨#[]⟩ : Str) ++ Str.join ⟨#[]⟩ (z :: zs) := rfl
      rw [e]
      refine ⟨?_, fun d hd => ?_⟩
      · rw [strLen_append, strLen_append, e1]
        show 1 + 0 + _ = _
        simp only [List.length_cons]
        omega
      · have hd' : d ∈ (c :: (Str.join ⟨#[]⟩ (z :: zs)).cps.toList) := by
          have : (((⟨#[c]⟩ : Str) ++ (⟨#[]⟩ : Str) ++ Str.join ⟨#[]⟩ (z :: zs)) : Str).cps.toList = c :: (Str.join ⟨#[]⟩ (z :: zs)).cps.toList := by
            show ((#[c] ++ #[]) ++ (Str.join ⟨#[]⟩ (z :: zs)).cps).toList = _
            simp
          rw [this] at hd
          exact hd
        rcases List.mem_cons.mp hd' with q | q
        · omega
        · exact e2 d q
theorem yes_if {σ : L2.St} {H : Hp} {A B : Hp → Prop} (h : A H) : tYes σ H (fun b H3 => if b = true then A H3 else B H3) := by
  unfold tYes
  dsimp only
  rw [if_pos rfl]
  exact h
def spWord : Sp := fun vs H Q _ => ∃ (p : Addr) (B : Int), vs = [.ref p] ∧ PurseAt H p B ∧ 0 ≤ B ∧ B ≤ 999000 ∧ ∀ (x : Str) (H' : Hp), Wd x → But p H H' → PurseAt H' p (B + 40) → Q (.str x) H'
theorem scWord : FnScope ["_law_purse_here", "_law_size", "_law_spin"] ["_law_purse_here"] (defScope sWord) := ⟨rfl, rfl, rfl, by decide +kernel, rfl, by decide +kernel, by decide +kernel⟩
theorem abc_at {j : Nat} (h : j < 26) : ∃ c, atI ("abcdefghijklmnopqrstuvwxyz" : Str).cps.toList (j : Int) = some c ∧ 97 ≤ c ∧ c ≤ 122 := by
  have e : ("abcdefghijklmnopqrstuvwxyz" : Str).cps.toList = (List.range 26).map (· + 97) := by decide +kernel
  refine ⟨j + 97, ?_, by omega, by omega⟩
  rw [e]
  exact atI_nat (by simp [h])
theorem ok_word {f : Addr} {fd : FuncData} (F : Fun K "_law_word" "_law_word" sWord f fd) (T : Blt mg) (D : Cee P w K mg base 2 "_law_draw" ["_law_purse_here", "_law_many"] spDraw) : FnOk P w K mg base CX0 3 f fd ["_law_purse_here"] spWord := by
  refine F.ok scWord (fun vs H Q E h => ?_) (fun cdv A outer s H vs Q E hr h => ?_)
  · obtain ⟨p, B, rfl, _⟩ := h
    rfl
  · obtain ⟨p, B, rfl, hP, B0, B1, k⟩ := h
    have nd := scWord.nd
    refine ⟨_, pss_cons (ps_set (i := 1) nd rfl (Or.inl rfl) (pe_op op_add pe_int (pe_c D hr rfl (pa_cons (pv 0) (pa_cons
        (pe_ifExp (pt_cmpR op_eq (pe_c D hr rfl (pa_cons (pv 0) (pa_cons pe_int pa_nil))) pe_int (nomark _)) pe_int pe_int) pa_nil)))))
      (pss_one (ps_ret (pe_join pe_str
        (pe_lc (own := [("_law_spin", 2)]) (g := gName 2) (tt := tYes) rfl nd (pi_range1 (by rfl) T.range (pa_cons (pv 1) pa_nil)) (blkOk_by (own := [("_law_spin", 2)]) (N := ["_law_purse_here", "_law_size", "_law_spin"]) (sc := defScope sWord) (by decide +kernel))
          (fun _ _ _ _ _ => pg_name (i := 2) nd rfl (Or.inl rfl)) (fun _ _ _ _ _ => pts_nil)
          (fun _ _ _ _ _ => pe_ix ix_str pe_str (pe_c D hr rfl (pa_cons (pv 0) (pa_cons pe_int pa_nil))) (fun _ _ => rfl)))))), ?_⟩
    refine ⟨_, rfl, _, rfl, p, 3, B, rfl, hP, B0, by omega, by decide, by decide, fun r1 H1 bt1 P1 r10 r11 => ?_⟩
    refine ⟨rfl, _, rfl, ?_⟩
    have B0' : (0 : Int) ≤ B + 4 := by omega
    refine ite2 (fun _ => ?_) (fun _ => ?_)
    all_goals
      refine ⟨p, _, B + 4, rfl, P1, B0', by omega, by decide, by decide, fun r2 H2 bt2 P2 r20 r21 => ?_⟩
      refine ⟨_, _, rfl, rfl, ⟨_, rfl⟩, _, rfl, _, rfl, by omega, by omega, fun D hD => ?_⟩
      have ndp : D ≠ p := fun e => by
        obtain ⟨_, _, _, _, q, _⟩ := P2
        rw [← e, hD] at q
        cases q
      refine lc_range (lo := 0) (n := (1 + r2).toNat) (fun i H' => But p H H' ∧ i ≤ 8 ∧ PurseAt H' p (B + 8 + 4 * i) ∧ ∃ ys : List Str, ys.length = i ∧ (∀ y ∈ ys, Letter y) ∧ H' D = some (.lst (ys.map V.str))) ?_ ?_ ?_
      · refine ⟨(bt1.trans bt2).new hD, by omega, ?_, [], rfl, fun y hy => by (cases hy), upd_same⟩
        obtain ⟨a, b, c, d, q, q1, q2, q3, q4⟩ := P2
        exact ⟨a, b, c, d, by rw [upd_ne ndp.symm]; exact q, q1, q2, q3, by omega⟩
      · rintro i H3 hi ⟨bt3, i8, P3, ys, yl, yL, hD3⟩
        refine ⟨rfl, yes_if ?_⟩
        refine ⟨_, rfl, p, 26, _, rfl, P3, by omega, by omega, by decide, by decide, fun r H4 bt4 P4 r0 r1 => ?_⟩
        obtain ⟨j, rfl⟩ : ∃ j : Nat, r = j := ⟨r.toNat, by omega⟩
        obtain ⟨c, hc, c1, c2⟩ := abc_at (j := j) (by omega)
        refine ⟨_, _, c, rfl, rfl, (by decide +kernel), hc, _, bt4 D _ ndp hD3, ?_, ?_⟩
        · rw [List.length_map, yl]
          exact small1000 (by omega)
        · refine ⟨?_, by omega, ?_, ys ++ [⟨#[c]⟩], by simp [yl], ?_, ?_⟩
          · intro b o n h
            have h4 := bt4 b o n (bt3 b o n h)
            have nbD : b ≠ D := ne_of_none ((bt1.trans bt2) b o n h) hD
            rw [upd_ne nbD]
            exact h4
          · obtain ⟨a, b, c, d, q, q1, q2, q3, q4⟩ := P4
            exact ⟨a, b, c, d, by rw [upd_ne ndp.symm]; exact q, q1, q2, q3, by omega⟩
          · intro y hy
            rcases List.mem_append.mp hy with h | h
            · exact yL y h
            · exact ⟨c, List.mem_singleton.mp h, c1, c2⟩
          · rw [List.map_append]
            exact upd_same
      · rintro H3 ⟨bt3, i8, P3, ys, yl, yL, hD3⟩
        obtain ⟨w1, w2⟩ := wd_join ys yL
        refine ⟨_, D, ys, rfl, rfl, .inl (SqL.of hD3), ?_, ?_⟩
        · have e : ∀ zs : List Str, (∀ y ∈ zs, Letter y) → (zs.map (·.length)).sum = zs.length := by
            intro zs
            induction zs with
            | nil => intro _; rfl
            | cons z zs ih =>
              intro h
              obtain ⟨c, rfl, _⟩ := h z List.mem_cons_self
              rw [List.map_cons, List.sum_cons, ih fun y hy => h y (List.mem_cons_of_mem _ hy), List.length_cons]
              show 1 + _ = _
              omega
          rw [e ys yL]
          show ys.length + ys.length * 0 ≤ _
          omega
        · have ej : Txt.join ("" : Str) ys = Str.join ⟨#[]⟩ ys := TL.join_eq _ _
          show Q (.str (Txt.join ("" : Str) ys)) H3
          rw [ej]
          refine k _ _ ⟨by omega, by omega, w2⟩ bt3 ?_
          obtain ⟨a, b, c, d, q, q1, q2, q3, q4⟩ := P3
          exact ⟨a, b, c, d, q, q1, q2, q3, by omega⟩
end
end KT

set_option Elab.async false
set_option linter.all false
set_option maxRecDepth 100000
set_option maxHeartbeats 4000000
/-! An own exception class with an __init__, made by a call with keywords: the library's rules for places alone, told again with keywords. -/
namespace PySem
namespace KX
open PySem.W PySem.Calls PyProof.Rows PySem.HandSPX
open Builtin Builtin.ObjectAttr
section
variable {w : World} {A : Around} {E : Value → Shared → Prop} {R : Result → Shared → Prop} {hp : Heap} {g : Array GenState} {dr : Drawn} {tk : Nat} {os : OsState} {prog : Program}
variable {nm q : Str} {C N fI : Addr} {bs bm bB us : List Value} {kw : List (Str × Value)} {hdct ab : Bool} {sn : List Str} {sub : List Value} {col : Option Bool} {dd : Option Addr} {k0 k1 k2 k3 k5 : Option Value} {B nId iId : String}
theorem chk_kw {M : Model} (F : ExcBaseFacts B nId iId bB) (same : ∀ T : String, bm.contains (.type T) = bB.contains (.type T)) {Q : Unit → Shared → Prop}
    (hC : hp.get? C = some (excClassObj nm q C N bs bm hdct sn sub ab col dd k0 k1 k2 k3 k5 nId)) (z : Q () ⟨hp, g, dr, tk, os⟩) :
    wpAny M A (checkBuiltinCall nId ⟨.ref C :: us, kw⟩) Q E ⟨hp, g, dr, tk, os⟩ := by
  have isB : (Value.ref C :: bm).contains (.type B) = true := by
    rw [List.contains_cons, same, F.hasB, Bool.or_true]
  have star := F.noStar
  simp only [checkBuiltinCall, F.newKind, F.newSplit, F.newRow]
  repeat (first
    | refine wpAny_loadPart_at hC ?_
    | (refine wpAny_isSubtype_exc hC ?_; rw [isB])
    | refine wpAny_staticBase_exc hC ?_
    | refine wpAny_madeBy_exc hC ?_
    | simp only [bne_self_eq_false, Bool.false_eq_true, if_false]
    | wp_step)
  exact z
theorem new_kw (F : ExcBaseFacts B nId iId bB) (same : ∀ T : String, bm.contains (.type T) = bB.contains (.type T))
    (hC : hp.get? C = some (excClassObj nm q C N bs bm hdct sn sub ab col dd k0 k1 k2 k3 k5 nId)) (few : us.length ≤ sizeLine)
    (z : R (.ok (.ret (.ref (hp.objs.size + 1)))) ⟨(hp.push (W.kdv_tup us)).push (excO C hp.objs.size), g, dr, tk, os⟩) :
    codeAny (model prog w) A (.builtin nId ⟨.ref C :: us, kw⟩) R ⟨hp, g, dr, tk, os⟩ := by
  have ends := F.ends
  have isB : (Value.ref C :: bm).contains (.type B) = true := by
    rw [List.contains_cons, same, F.hasB, Bool.or_true]
  have noA : (Value.ref C :: bm).contains (.type "AttributeError") = false := by
    rw [List.contains_cons, same, F.noAttr]
    rfl
  have noN : (Value.ref C :: bm).contains (.type "NameError") = false := by
    rw [List.contains_cons, same, F.noName]
    rfl
  refine codeAny_builtinAt F.entry ?_
  unfold Builtin.«BaseException.__new__»
  refine wpAt_bind ?_
  show wpAt _ _ _ (stack >>= _) _ _ _
  refine wpAt_bind (wpAt_stack fun p below => wpAt_of_wpAny ?_)
  wp_walk
  refine wpAt_of_wpAny ?_
  rw [F.owner]
  repeat (first
    | with_reducible refine wpAny_madeHere_exc F.canon hC ?_
    | with_reducible refine wpAny_loadPart_at hC ?_
    | (with_reducible refine wpAny_isSubtype_exc hC ?_; first | rw [isB] | rw [noA] | rw [noN])
    | wp_step)
  show R _ _
  rw [Heap.size_push]
  exact z
theorem tcall_kw (F : ExcBaseFacts B nId iId bB) (same : ∀ T : String, bm.contains (.type T) = bB.contains (.type T)) {Q : Fin → Shared → Prop}
    (hC : hp.get? C = some (excClassObj nm q C N bs bm hdct sn sub ab col dd k0 k1 k2 k3 k5 nId))
    (li : W.Looks (model prog w) hp (typeLookup (.ref C) "__init__") (some (.ref fI))) (lb : ∀ self, W.Looks (model prog w) hp (bindSpecial (.ref fI) self) (.ref fI, [self])) (few : us.length ≤ sizeLine)
    (z : codeAny (model prog w) A (.call (.ref fI) ⟨.ref (hp.objs.size + 1) :: us, kw⟩)
      (fun r s' => match r with | .ok (.ret v) => v = .none ∧ Q (.done (.ret (.ref (hp.objs.size + 1)))) s' | .ok _ => False | .error e => E e s')
      ⟨(hp.push (W.kdv_tup us)).push (excO C hp.objs.size), g, dr, tk, os⟩) :
    wpAny (model prog w) A (Builtin.«type.__call__» ⟨.ref C :: us, kw⟩) Q E ⟨hp, g, dr, tk, os⟩ := by
  repeat (first
    | with_reducible refine wpAny_loadPart_at hC ?_
    | with_reducible refine wpAny_madeBy_exc hC ?_
    | wp_step)
  refine codeAny_call_builtin_code (Code.quiet_builtin _ F.quiet) (chk_kw F same hC ?_)
  refine new_kw F same hC few ?_
  show wpAny _ _ _ _ _ _
  have keep : ∀ b o, hp.get? b = some o → ((hp.push (W.kdv_tup us)).push (excO C hp.objs.size)).get? b = some o :=
    fun b o e => Heap.get?_push_of_some _ (Heap.get?_push_of_some _ e)
  have hC2 := keep _ _ hC
  have made : ((hp.push (W.kdv_tup us)).push (excO C hp.objs.size)).get? (hp.objs.size + 1) = some (excO C hp.objs.size) := by heap_get
  have self1 : (Value.ref C :: bm).contains (.ref C) = true := by simp
  have li2 := li.keeps keep
  have lb2 := (lb (.ref (hp.objs.size + 1))).keeps keep
  unfold isInstance
  repeat (first
    | with_reducible refine wpAny_loadPart_at made ?_
    | (with_reducible refine wpAny_isSubtype_exc hC2 ?_; rw [self1])
    | wp_step)
  show wpAny _ _ (typeLookup (.ref C) _) _ _ _
  refine li2.at ?_
  refine wpAny_holding (wpAny_bind (lb2.at ?_))
  refine wpAny_bind (wpAny_call (codeAny_mono z fun r s' y => ?_))
  rcases r with e | (v | _ | _ | _) <;> first | exact y | exact y.elim | skip
  obtain ⟨rfl, y⟩ := y
  first
    | exact wpAny_pure (wpAny_pure y)
    | (wp_walk; exact y)
theorem chkcall_kw {M : Model} {Q : Unit → Shared → Prop} (hC : hp.get? C = some (excClassObj nm q C N bs bm hdct sn sub ab col dd k0 k1 k2 k3 k5 nId)) (z : Q () ⟨hp, g, dr, tk, os⟩) :
    wpAny M A (checkBuiltinCall "type.__call__" ⟨.ref C :: us, kw⟩) Q E ⟨hp, g, dr, tk, os⟩ := by
  have f3 := tc_sub
  have ty : (⟨hp, g, dr, tk, os⟩ : Shared).TypeIs (.ref C) "type" := ⟨_, hC, rfl⟩
  simp only [checkBuiltinCall, tc_kind, tc_split]
  repeat (any_goals (first
    | assumption
    | with_reducible refine wpAny_loadPart_at hC ?_
    | with_reducible refine wpAny_onRaise ?_
    | with_reducible refine wpAny_map ?_
    | wp_step))
theorem call_kw (F : ExcBaseFacts B nId iId bB) (same : ∀ T : String, bm.contains (.type T) = bB.contains (.type T))
    (hC : hp.get? C = some (excClassObj nm q C N bs bm hdct sn sub ab col dd k0 k1 k2 k3 k5 nId))
    (li : W.Looks (model prog w) hp (typeLookup (.ref C) "__init__") (some (.ref fI))) (lb : ∀ self, W.Looks (model prog w) hp (bindSpecial (.ref fI) self) (.ref fI, [self])) (few : us.length ≤ sizeLine)
    (z : codeAny (model prog w) (A.under (.builtin "type.__call__" ⟨.ref C :: us, kw⟩)) (.call (.ref fI) ⟨.ref (hp.objs.size + 1) :: us, kw⟩) (W.InitBack (hp.objs.size + 1) R)
      ⟨(hp.push (W.kdv_tup us)).push (excO C hp.objs.size), g, dr, tk, os⟩) :
    codeAny (model prog w) A (.call (.ref C) ⟨us, kw⟩) R ⟨hp, g, dr, tk, os⟩ := by
  have f1 := tc_lookup
  have f2 := tc_bind (.ref C)
  have ty : (⟨hp, g, dr, tk, os⟩ : Shared).TypeIs (.ref C) "type" := ⟨_, hC, rfl⟩
  refine codeAny_of_tree ?_
  show wpAny _ _ (callAny (.ref C) _) _ _ _
  repeat (any_goals (first | assumption | with_reducible refine wpAny_loadPart_at hC ?_ | wp_step))
  refine ⟨rfl, ?_⟩
  refine codeAny_call_builtin_at (Code.quiet_builtin _ (by decide +kernel)) entry_typeCall
    (chkcall_kw hC (tcall_kw F same hC li lb few (codeAny_mono z fun r s' y => ?_)))
  rcases r with e | (v | _ | _ | _) <;> exact y
end
end KX
end PySem

set_option Elab.async false
set_option linter.all false
set_option maxRecDepth 100000
set_option maxHeartbeats 4000000
namespace KT
open PySem PySem.Spec PyProof.Rows L2
/-- at a stands an exception of the class at C whose one field `value` is v -/
def ErrAt (H : Hp) (a C : Addr) (v : V) : Prop := ∃ d, H a = some (exo a C (some d)) ∧ H d = some (exd d [("value", v)])
abbrev mkErr (H : Hp) (a d C : Addr) (v : V) : Hp := upd (upd H d (exd d [("value", v)])) a (exo a C (some d))
theorem mkErr_a {H : Hp} {a d C : Addr} {v : V} : mkErr H a d C v a = some (exo a C (some d)) := upd_same
theorem mkErr_d {H : Hp} {a d C : Addr} {v : V} (h : d ≠ a) : mkErr H a d C v d = some (exd d [("value", v)]) := (upd_ne h).trans upd_same
theorem mkErr_ne {H : Hp} {a d C b : Addr} {v : V} (h1 : b ≠ a) (h2 : b ≠ d) : mkErr H a d C v b = H b := (upd_ne h1).trans (upd_ne h2)
theorem errAt_mk {H : Hp} {a d C : Addr} {v : V} (h : d ≠ a) : ErrAt (mkErr H a d C v) a C v := ⟨d, mkErr_a, mkErr_d h⟩
section
variable {X : Cx} {k : Nat} {C fI : Addr} {fd : FuncData} {ps : List Str} {sp : Sp} {Q : VK} {pins : List (Addr × Obj)} {σ : L2.St} {H1 : Hp} {s1 : Shared} {us zs : List Value} {kw : List (Str × Value)} {vz : List V}
/-- C(.., k = v), C an own exception class with its own __init__, as a value -/
theorem run_exo (T : OexC X.K C) (iC : PySem.W.findIn X.K (.ref C) "__init__" = some (some (.ref fI))) (tI : PySem.W.typeIn X.K (.ref fI) = some (.type "function")) (F1 : FnOk X.prog X.w X.K X.mg X.base CX0 k fI fd ps sp)
    (hr : Room (k + 1) X.A) (I1 : Inv X pins σ H1 s1) (few : us.length ≤ sizeLine) (hb : ∀ (s : Shared) (self : Value), X.K.In s.heap → BindsTo s fd ⟨self :: us, kw⟩ (ps.zip (self :: zs))) (rz : Vals vz zs)
    (hq : ∀ a, H1 a = none → sp (.ref a :: vz) (upd H1 a (exo a C none)) (fun v H2 => v = .non ∧ Q (.ref a) H2) E0) :
    wpAny (model X.prog X.w) X.A (call (.ref C) us kw) (EP X pins σ Q) X.xe s1 := by
  obtain ⟨nm, q, N, bs, bm, sn, sub, ab, col, dd, k0, k1, k2, k3, k5, hC, hbm⟩ := T.cls
  obtain ⟨hp, g, dr, tk, os⟩ := s1
  have more : hp.objs.size ≤ hp.objs.size + 1 := Nat.le_succ _
  have z := hq (hp.objs.size + 1) (I1.hok.fresh more)
  have keep : ∀ b o, hp.get? b = some o → ((hp.push (PySem.W.kdv_tup us)).push (PySem.HandSPX.excO C hp.objs.size)).get? b = some o :=
    fun b o e => Heap.get?_push_of_some _ (Heap.get?_push_of_some _ e)
  have made : ((hp.push (PySem.W.kdv_tup us)).push (PySem.HandSPX.excO C hp.objs.size)).get? (hp.objs.size + 1) = some (PySem.HandSPX.excO C hp.objs.size) := by heap_get
  have I2 := I1.laid (t' := tk) (a := hp.objs.size + 1) (o := exo (hp.objs.size + 1) C none) (h' := (hp.push (PySem.W.kdv_tup us)).push (PySem.HandSPX.excO C hp.objs.size)) keep more (exo_ok made)
  have room2 : Room k (X.A.under (.builtin "type.__call__" ⟨.ref C :: us, kw⟩)) := hr.make C us kw
  refine wpAny_call (KX.call_kw F.excBase_ValueError (fun Y => PySem.HandSPX.refsVE_contains Y bm hbm) (I1.kIn _ _ hC) (PySem.W.looks_findIn I1.kIn iC) (fun self => PySem.W.bind_fn I1.kIn self tI) few
    (codeAny_mono (F1.run _ X.stack _ _ ⟨Value.ref (hp.objs.size + 1) :: us, kw⟩ (Value.ref (hp.objs.size + 1) :: zs) _ _ E0 room2 (I2.env0.make C us kw) (hb _ _ I2.kIn) (.cons (show L2.RelV (.ref (hp.objs.size + 1)) (Value.ref (hp.objs.size + 1)) from rfl) rz) z) fun r s' y => ?_))
  cases r with
  | error er => exact y.elim
  | ok fl =>
    cases fl with
    | ret u =>
      obtain ⟨v, H2, I3, rv, ev, q2⟩ := I2.after y
      subst ev
      exact ⟨rv, ⟨V.ref (hp.objs.size + 1), H2, I3, rfl, q2⟩⟩
    | next => exact False.elim y
    | brk => exact False.elim y
    | cont => exact False.elim y
end
/-- the promise of every __init__(self, value=None): self.value = value -/
def spEI (K : PySem.W.Frag) : Sp := fun vs H Q _ => ∃ (a C : Addr) (v : V), vs = [.ref a, v] ∧ OexC K C ∧ PySem.W.findIn K (.ref C) "value" = some none ∧ H a = some (exo a C none) ∧
  ∀ d, H d = none → d ≠ a → Q .non (upd (upd H d (exd d [("value", v)])) a (exo a C (some d)))
/-- what the class C must say, so that the field of its instances is read -/
structure ErrF (K : PySem.W.Frag) (C : Addr) : Prop where
  ga : PySem.W.findIn K (.ref C) "__getattribute__" = some (some (.builtin "BaseException.__getattribute__"))
  gg : PySem.W.findIn K (.ref C) "__getattr__" = some none
  ex : PySem.W.subIn K (.ref C) (.type "BaseException") = some true
  hd : PySem.W.hasDictIn K C = true
  no : PySem.W.findIn K (.ref C) "value" = some none
/-- .. and that isinstance asks them rightly -/
structure ErrI (K : PySem.W.Frag) (C : Addr) : Prop where
  ga : PySem.W.findIn K (.ref C) "__getattribute__" = some (some (.builtin "BaseException.__getattribute__"))
  gg : PySem.W.findIn K (.ref C) "__getattr__" = some none
  ex : PySem.W.subIn K (.ref C) (.type "BaseException") = some true
  cl : (PySem.W.clsIn K C).isSome = true
  cc : PySem.W.findIn K (.ref C) "__class__" = some (some (.builtin "object.__class__"))
  sp : PySem.W.specialIn K (.builtin "object.__class__") "__get__" = some (some (.builtin "getset_descriptor.__get__"))
  tk : PySem.W.takesIn K (.builtin "object.__class__") = some true
  ob : PySem.W.mroIn K C (.type "object") = some true
/-- what callers know of such a class -/
structure ErrC (P : Program) (w : World) (K : PySem.W.Frag) (mg : Str → Option Value) (base : Heap) (x : Str) (C : Addr) : Prop where
  T : OexC K C
  no : PySem.W.findIn K (.ref C) "value" = some none
  m : mg x = some (.ref C)
  I : ∃ (fI : Addr) (fd : FuncData), PySem.W.findIn K (.ref C) "__init__" = some (some (.ref fI)) ∧ PySem.W.typeIn K (.ref fI) = some (.type "function") ∧ FnOk P w K mg base CX0 1 fI fd ["self", "value"] (spEI K) ∧
    (∀ (s : Shared) (self u : Value), K.In s.heap → BindsTo s fd ⟨[self, u], []⟩ [("self", self), ("value", u)]) ∧
    (∀ (s : Shared) (self : Value), K.In s.heap → BindsTo s fd ⟨[self], []⟩ [("self", self), ("value", .none)]) ∧
    (∀ (s : Shared) (self u : Value), K.In s.heap → BindsTo s fd ⟨[self], [("value", u)]⟩ [("self", self), ("value", u)])
def tE (C : Addr) (te : TE) : TE := fun σ H Q => te σ H fun v H1 => ∀ a d, H1 a = none → H1 d = none → d ≠ a → Q (.ref a) (mkErr H1 a d C v)
def tEK (C : Addr) (te : TE) : TE := fun σ H Q => tCons te tNil σ H fun zs H1 => zs.length = 1 ∧ ∀ a d, H1 a = none → H1 d = none → d ≠ a → Q (.ref a) (mkErr H1 a d C (zs.headD .non))
def tE0 (C : Addr) : TE := fun _ H Q => ∀ a d, H a = none → H d = none → d ≠ a → Q (.ref a) (mkErr H a d C .non)
theorem mk_upd {H : Hp} {a d C : Addr} {v : V} {o : HO} (h : d ≠ a) : upd (upd (upd H a o) d (exd d [("value", v)])) a (exo a C (some d)) = mkErr H a d C v := by
  funext b
  by_cases hb : b = a
  · rw [hb, mkErr_a]
    exact upd_same
  · by_cases hbd : b = d
    · subst hbd
      rw [mkErr_d h]
      exact (upd_ne hb).trans upd_same
    · rw [mkErr_ne hb hbd]
      exact (upd_ne hb).trans ((upd_ne hbd).trans (upd_ne hb))
section
variable {X : Cx} {C : Addr} {x : Str} {e : Expr} {te : TE} {p pos kpos : Pos} {k : Nat}
theorem pe_e1 (Z : ErrC X.prog X.w X.K X.mg X.base x C) (hr : Room k X.A) (hg : Gl X x) (he : PE X e te) (h2 : 2 ≤ k := by decide) (hdb : (x == ("__debug__" : Str)) = false := by decide)
    (hs : starEach [e] X.env = (false, eval e X.env) :: starEach [] X.env := by rfl) : PE X (.Call (.Name x p) [e] [] pos) (tE C te) := by
  obtain ⟨fI, fd, iC, tI, F, b1, b0, bk⟩ := Z.I
  refine ⟨fun pins s σ H Q I h => ?_⟩
  refine wpAny_Call_Name_kw (ld_glob I hg Z.m ?_ hdb)
  refine PySem.W.callWith_K (h₀ := X.base) I.ok.mod.kin Z.T.kC ?_ hs (by rfl)
  rw [hs]
  show wpAny _ _ (spliced ((false, eval e X.env) :: backTo pos (starEach [] X.env))) _ _ s
  refine Calls.spliced_cons (thn (he.run pins s σ H _ I h) fun u s1 ⟨v, H1, I1, r1, q1⟩ => ?_)
  refine Calls.spliced_nil ⟨I1.kIn, ?_⟩
  refine run_exo (us := [u]) (kw := []) (zs := [u]) (vz := [v]) Z.T iC tI F (hr.mono h2) I1 (by show 1 ≤ sizeLine; decide) (fun s self K => b1 s self u K) (.cons r1 .nil) fun a ha => ?_
  exact ⟨a, C, v, rfl, Z.T, Z.no, upd_same, fun d hd hda => ⟨rfl, by
    rw [mk_upd hda]
    exact q1 a d ha (by rw [upd_ne hda] at hd; exact hd) hda⟩⟩
theorem pe_e0 (Z : ErrC X.prog X.w X.K X.mg X.base x C) (hr : Room k X.A) (hg : Gl X x) (h2 : 2 ≤ k := by decide) (hdb : (x == ("__debug__" : Str)) = false := by decide) : PE X (.Call (.Name x p) [] [] pos) (tE0 C) := by
  obtain ⟨fI, fd, iC, tI, F, b1, b0, bk⟩ := Z.I
  refine ⟨fun pins s σ H Q I q1 => ?_⟩
  refine wpAny_Call_Name_kw (ld_glob I hg Z.m ?_ hdb)
  refine PySem.W.callWith_K0 I.kIn Z.T.kC ?_
  refine run_exo (us := []) (kw := []) (zs := [.none]) (vz := [.non]) Z.T iC tI F (hr.mono h2) I (by show 0 ≤ sizeLine; decide) (fun s self K => b0 s self K) (.cons rfl .nil) fun a ha => ?_
  exact ⟨a, C, .non, rfl, Z.T, Z.no, upd_same, fun d hd hda => ⟨rfl, by
    rw [mk_upd hda]
    exact q1 a d ha (by rw [upd_ne hda] at hd; exact hd) hda⟩⟩
theorem pe_eK (Z : ErrC X.prog X.w X.K X.mg X.base x C) (hr : Room k X.A) (hg : Gl X x) (he : PE X e te) (h2 : 2 ≤ k := by decide) (hdb : (x == ("__debug__" : Str)) = false := by decide)
    (hall : (backToKw pos (keywordEach [⟨some "value", e, kpos⟩] X.env)).all (·.1.isSome) = true := by rfl) (hks : (backToKw pos (keywordEach [⟨some "value", e, kpos⟩] X.env)).filterMap (·.1) = [("value" : Str)] := by rfl)
    (hpl : ((backTo pos (starEach [] X.env)).any (·.1) || (backToKw pos (keywordEach [⟨some "value", e, kpos⟩] X.env)).any (·.1.isNone)) = false := by rfl) :
    PE X (.Call (.Name x p) [] [⟨some "value", e, kpos⟩] pos) (tEK C te) := by
  obtain ⟨fI, fd, iC, tI, F, b1, b0, bk⟩ := Z.I
  refine ⟨fun pins s σ H Q I h => ?_⟩
  refine wpAny_Call_Name_kw (ld_glob I hg Z.m ?_ hdb)
  refine PySem.W.callWith_KW0 (h₀ := X.base) I.ok.mod.kin Z.T.kC hall ?_ hpl
  refine thn ((pk_cons (nm := some "value") (kpos := kpos) he pk_nil).run pos pins s σ H _ I h) fun ws s2 ⟨vs, H2, I2, rz, l1, q1⟩ => ⟨I2.kIn, ?_⟩
  cases rz with
  | nil => cases l1
  | @cons v u vr ur r1 rr =>
    have e0 : vr = [] := List.eq_nil_of_length_eq_zero (Nat.succ.inj l1)
    subst e0
    cases rr
    rw [hks]
    refine run_exo (us := []) (kw := [("value", u)]) (zs := [u]) (vz := [v]) Z.T iC tI F (hr.mono h2) I2 (by show 0 ≤ sizeLine; decide) (fun s self K => bk s self u K) (.cons r1 .nil) fun a ha => ?_
    exact ⟨a, C, v, rfl, Z.T, Z.no, upd_same, fun d hd hda => ⟨rfl, by
      rw [mk_upd hda]
      exact q1 a d ha (by rw [upd_ne hda] at hd; exact hd) hda⟩⟩
/-- err.value -/
def tEV (K : PySem.W.Frag) (te : TE) : TE := fun σ H Q => te σ H fun x H1 => ∃ (a C : Addr) (v : V), x = .ref a ∧ ErrAt H1 a C v ∧ ErrF K C ∧ Q v H1
theorem pe_ev (he : PE X e te) (hb : attributeBase e "value" X.env (eval e X.env) = eval e X.env := by rfl) : PE X (.Attribute e "value" pos) (tEV X.K te) := by
  refine ⟨fun pins s σ H Q I h => ?_⟩
  refine attr_of hb (thn (he.run pins s σ H _ I h) fun u s1 hh => ?_)
  obtain ⟨x, H1, I1, rx, a, C, v, ex, ⟨d, ha, hdd⟩, Z, q⟩ := hh
  subst ex
  obtain rfl : u = Value.ref a := rx
  obtain ⟨t0, ho⟩ := exo_at I1.hok ha
  obtain ⟨mA, hns, rel⟩ := exd_at I1.hok hdd
  obtain ⟨od, hod, hl⟩ := lookIn_ns hns
  obtain ⟨u, hu, ru⟩ := RelO.some_of (v := v) (o := mA "value") (rel "value")
  have J : PySem.W.InstAt s1.heap a { cls := .ref C, dict := some d, data := .fields #[.ref t0, .none, .none, .none, .bool false, .none] } C (some od) := ⟨ho, rfl, rfl, hod⟩
  exact HandSPX.exc_get I1.kIn J Z.ga Z.gg Z.ex (PySem.W.findObj_own Z.hd Z.no rfl (by rw [hl, hu])) (handed_of ru) ⟨v, H1, I1.tok _, ru, q⟩
/-- isinstance(err, c) -/
def rIE (K : PySem.W.Frag) : List V → Hp → VK → Prop := fun xs H Q => ∃ (a C : Addr) (d : Option Addr) (c : V) (cv : Value) (b : Bool), xs = [.ref a, c] ∧ ClsV c cv ∧ H a = some (exo a C d) ∧ (∀ dd, d = some dd → ∃ fs, H dd = some (exd dd fs)) ∧ ErrI K C ∧ PySem.W.kitOne K (.ref C) cv = some b ∧ Q (.bl b) H
theorem call_isE : CallR X (.builtin "isinstance") (rIE X.K) := by
  intro pins s σ H xs us Q I r h
  obtain ⟨a, C, d, c, cv, b, rfl, hc, ha, hd, Z, e, q⟩ := h
  obtain ⟨u1, u2, rfl, r1, r2⟩ := vals2 r
  have e2 := hc.eq r2
  subst e2
  obtain rfl : u1 = Value.ref a := r1
  obtain ⟨t0, ho⟩ := exo_at I.hok ha
  have J : ∃ od, PySem.W.InstAt s.heap a { cls := .ref C, dict := d, data := .fields #[.ref t0, .none, .none, .none, .bool false, .none] } C od := by
    cases d with
    | none => exact ⟨none, ho, rfl, rfl, trivial⟩
    | some dd =>
      obtain ⟨fs, hf⟩ := hd dd rfl
      obtain ⟨mA, hns, rel⟩ := exd_at I.hok hf
      obtain ⟨od, hod, hl⟩ := lookIn_ns hns
      exact ⟨some od, ho, rfl, rfl, hod⟩
  obtain ⟨od, J⟩ := J
  exact PySem.W.kia_one (PySem.W.kitx_exc Z.cl Z.ga Z.gg Z.ex Z.cc Z.sp Z.tk Z.ob) I.kIn J e (fun z => nomatch z) fun tk => ⟨.bl b, H, I.tok tk, rfl, q⟩
end
end KT

set_option Elab.async false
set_option linter.all false
set_option maxRecDepth 100000
set_option maxHeartbeats 4000000
namespace KT
open PySem PySem.Spec PyProof.Rows L2
/-! ### data as a whole: what a value comes to, through lists, tuples and dictionaries with text keys -/
mutual
def Rd (H : Hp) : PyData → V → Prop
  | .none, v => v = .non
  | .bool b, v => v = .bl b
  | .int i, v => v = .int i
  | .str x, v => v = .str x
  | .list ds, v => ∃ (a : Addr) (xs : List V), v = .ref a ∧ H a = some (.lst xs) ∧ RdAll H ds xs
  | .tuple ds, v => ∃ (a : Addr) (xs : List V), v = .ref a ∧ H a = some (.tup xs) ∧ RdAll H ds xs
  | .dict kds, v => ∃ (a : Addr) (kvs : List (Key × V)), v = .ref a ∧ H a = some (.dK kvs) ∧ RdKv H kds kvs
def RdAll (H : Hp) : List PyData → List V → Prop
  | [], xs => xs = []
  | d :: ds, xs => ∃ (y : V) (ys : List V), xs = y :: ys ∧ Rd H d y ∧ RdAll H ds ys
def RdKv (H : Hp) : List (PyData × PyData) → List (Key × V) → Prop
  | [], kvs => kvs = []
  | (k, d) :: r, kvs => ∃ (x : Str) (y : V) (t : List (Key × V)), kvs = (.inr x, y) :: t ∧ k = .str x ∧ Rd H d y ∧ RdKv H r t
end
mutual
theorem Rd.mono {H H' : Hp} (k : ∀ b o, H b = some o → H' b = some o) : ∀ (d : PyData) (v : V), Rd H d v → Rd H' d v
  | .none, v, h => by simpa only [Rd] using h
  | .bool b, v, h => by simpa only [Rd] using h
  | .int i, v, h => by simpa only [Rd] using h
  | .str x, v, h => by simpa only [Rd] using h
  | .list ds, v, h => by
    simp only [Rd] at h ⊢
    obtain ⟨a, xs, e, ha, hx⟩ := h
    exact ⟨a, xs, e, k _ _ ha, RdAll.mono k ds xs hx⟩
  | .tuple ds, v, h => by
    simp only [Rd] at h ⊢
    obtain ⟨a, xs, e, ha, hx⟩ := h
    exact ⟨a, xs, e, k _ _ ha, RdAll.mono k ds xs hx⟩
  | .dict ds, v, h => by
    simp only [Rd] at h ⊢
    obtain ⟨a, xs, e, ha, hx⟩ := h
    exact ⟨a, xs, e, k _ _ ha, RdKv.mono k ds xs hx⟩
theorem RdAll.mono {H H' : Hp} (k : ∀ b o, H b = some o → H' b = some o) : ∀ (ds : List PyData) (vs : List V), RdAll H ds vs → RdAll H' ds vs
  | [], v, h => by simpa only [RdAll] using h
  | d :: ds, v, h => by
    simp only [RdAll] at h ⊢
    obtain ⟨y, ys, e, h1, h2⟩ := h
    exact ⟨y, ys, e, Rd.mono k d y h1, RdAll.mono k ds ys h2⟩
theorem RdKv.mono {H H' : Hp} (k : ∀ b o, H b = some o → H' b = some o) : ∀ (ds : List (PyData × PyData)) (kvs : List (Key × V)), RdKv H ds kvs → RdKv H' ds kvs
  | [], v, h => by simpa only [RdKv] using h
  | (x, d) :: ds, v, h => by
    simp only [RdKv] at h ⊢
    obtain ⟨z, y, t, e, e2, h1, h2⟩ := h
    exact ⟨z, y, t, e, e2, Rd.mono k d y h1, RdKv.mono k ds t h2⟩
end
/-- the table of modules stands in the written part -/
def SysK (K : PySem.W.Frag) : Prop := ∃ o, K.lookup sysModules = some o ∧ o.cls = .type "dict"
section
variable {X : Cx} {pins : List (Addr × Obj)} {σ : L2.St} {H : Hp} {s : Shared}
mutual
theorem Rd.reads (I : Inv X pins σ H s) (Z : SysK X.K) : ∀ (d : PyData) (v : V) (u : Value), Rd H d v → L2.RelV v u → ∃ as, Reads s.heap u d as ∧ sysModules ∉ as
  | .none, v, u, h, r => by
    obtain rfl : v = .non := by simpa only [Rd] using h
    cases r
    exact ⟨_, Reads.none, by simp⟩
  | .bool b, v, u, h, r => by
    obtain rfl : v = .bl b := by simpa only [Rd] using h
    cases r
    exact ⟨_, Reads.bool b, by simp⟩
  | .int i, v, u, h, r => by
    obtain rfl : v = .int i := by simpa only [Rd] using h
    obtain ⟨t, rfl⟩ := r
    exact ⟨_, Reads.int i t, by simp⟩
  | .str x, v, u, h, r => by
    obtain rfl : v = .str x := by simpa only [Rd] using h
    obtain ⟨t, rfl⟩ := r
    exact ⟨_, Reads.str x t, by simp⟩
  | .list ds, v, u, h, r => by
    simp only [Rd] at h
    obtain ⟨a, xs, rfl, ha, hx⟩ := h
    obtain rfl : u = Value.ref a := r
    obtain ⟨_, its, n, rv, ho⟩ := (show ObjOk X.prog X.w H s.heap a (.lst xs) from I.hok a _ ha)
    obtain ⟨as, q, qn⟩ := RdAll.reads I Z ds xs its hx rv
    refine ⟨_, Reads.list ho rfl rfl q, ?_⟩
    obtain ⟨o, lo, co⟩ := Z
    have na : sysModules ≠ a := fun e => by
      have h1 := I.kIn _ _ lo
      rw [e, ho] at h1
      have h2 := Option.some.inj h1
      rw [← h2] at co
      have h3 : Value.type "list" = Value.type "dict" := co
      exact absurd h3 (by decide)
    intro hm
    rcases List.mem_cons.mp hm with e | e
    · exact na e
    · exact qn e
  | .tuple ds, v, u, h, r => by
    simp only [Rd] at h
    obtain ⟨a, xs, rfl, ha, hx⟩ := h
    obtain rfl : u = Value.ref a := r
    obtain ⟨_, its, rv, o, ho, hc, n, hd⟩ := (show ObjOk X.prog X.w H s.heap a (.tup xs) from I.hok a _ ha)
    obtain ⟨as, q, qn⟩ := RdAll.reads I Z ds xs its hx rv
    exact ⟨_, Reads.tuple ho hc hd q, qn⟩
  | .dict kds, v, u, h, r => by
    simp only [Rd] at h
    obtain ⟨a, kvs, rfl, ha, hx⟩ := h
    obtain rfl : u = Value.ref a := r
    obtain ⟨_, hs, vs, kv, o, es, ep, ho, hex, hd, _, hp, _⟩ := (show ObjOk X.prog X.w H s.heap a (.dK kvs) from I.hok a _ ha)
    obtain ⟨as, bs, q1, q2, n1, n2⟩ := RdKv.reads I Z kds kvs vs es.toList hx kv hp
    refine ⟨_, Reads.dict ho hex.1 hd q1 q2, ?_⟩
    have na : sysModules ≠ a := fun e => by
      rw [e] at hs
      simp at hs
    intro hm
    rcases List.mem_cons.mp hm with e | e
    · exact na e
    · rcases List.mem_append.mp e with e | e
      · exact n1 e
      · exact n2 e
theorem RdAll.reads (I : Inv X pins σ H s) (Z : SysK X.K) : ∀ (ds : List PyData) (vs : List V) (us : List Value), RdAll H ds vs → Vals vs us → ∃ as, ReadsAll s.heap us ds as ∧ sysModules ∉ as
  | [], vs, us, h, r => by
    obtain rfl : vs = [] := by simpa only [RdAll] using h
    cases r
    exact ⟨_, ReadsAll.nil, by simp⟩
  | d :: ds, vs, us, h, r => by
    simp only [RdAll] at h
    obtain ⟨y, ys, rfl, h1, h2⟩ := h
    cases r with
    | cons r1 r2 =>
      obtain ⟨as, q1, n1⟩ := Rd.reads I Z d _ _ h1 r1
      obtain ⟨bs, q2, n2⟩ := RdAll.reads I Z ds _ _ h2 r2
      exact ⟨_, ReadsAll.cons q1 q2, fun hm => (List.mem_append.mp hm).elim n1 n2⟩
theorem RdKv.reads (I : Inv X pins σ H s) (Z : SysK X.K) : ∀ (kds : List (PyData × PyData)) (kvs : List (Key × V)) (vs : List (Key × Value)) (es : List DictEntry), RdKv H kds kvs → KV kvs vs → Pairs (mixKind X.prog X.w) es vs →
    ∃ as bs, ReadsAll s.heap (es.map (·.key)) (kds.map (·.1)) as ∧ ReadsAll s.heap (es.map (·.val)) (kds.map (·.2)) bs ∧ sysModules ∉ as ∧ sysModules ∉ bs
  | [], kvs, vs, es, h, r, p => by
    obtain rfl : kvs = [] := by simpa only [RdKv] using h
    cases r
    cases p
    exact ⟨_, _, ReadsAll.nil, ReadsAll.nil, by simp, by simp⟩
  | (k, d) :: t, kvs, vs, es, h, r, p => by
    simp only [RdKv] at h
    obtain ⟨x, y, t', rfl, rfl, h1, h2⟩ := h
    cases r with
    | @cons _ kv _ vr r1 r2 =>
      obtain ⟨kk, vv⟩ := kv
      obtain ⟨e1, rv⟩ := r1
      have e1' : (Sum.inr x : Key) = kk := e1
      subst e1'
      cases p with
      | @cons e _ es' _ p1 p2 p3 =>
        obtain ⟨as, q1, n1⟩ := Rd.reads I Z d y e.val h1 (by rw [p2]; exact rv)
        obtain ⟨bs, cs, q2, q3, n2, n3⟩ := RdKv.reads I Z t t' vr es' h2 r2 p3
        rcases keyIs_shape (k := Sum.inr x) (v := e.key) p1 with ⟨i, tk, z, _⟩ | ⟨x2, tk, z, ek⟩
        · cases z
        · cases z
          have hk : Reads s.heap e.key (.str x) [] := by
            rw [ek]
            exact Reads.str x tk
          exact ⟨_, _, ReadsAll.cons hk q2, ReadsAll.cons q1 q3, by simpa using n2, fun hm => (List.mem_append.mp hm).elim n1 n3⟩
end
/-- repr(x), x data: the text that shows it. The stack holds no other repr -/
def rRepr : List V → Hp → VK → Prop := fun xs H Q => ∃ (x : V) (d : PyData), xs = [x] ∧ Rd H d x ∧ d.showable = true ∧ d.depth ≤ 30 ∧ d.shown.length ≤ sizeLine ∧ Q (.str d.shown) H
theorem call_repr (Z : SysK X.K) (hg : X.A.guards = some []) (hu : X.A.units + 64 < cLine) : CallR X (.builtin "repr") rRepr := by
  intro pins s σ H xs us Q I r h
  obtain ⟨x, d, rfl, hd, h1, h2, h3, q⟩ := h
  obtain ⟨u, rfl, r1⟩ := vals1 r
  obtain ⟨as, rd, n⟩ := Rd.reads I Z d x u hd r1
  by_cases hr : ∃ a, u = .ref a
  · obtain ⟨a, rfl⟩ := hr
    refine repr_of_reads' rd h1 (fun _ => n) hg (by omega) (fun _ _ e => e) (fun h' t tk k => ?_) h3
    exact ⟨.str d.shown, H, I.kept (t' := tk) k, ⟨t, rfl⟩, q⟩
  · cases d with
    | none =>
      obtain rfl : x = .non := by simpa only [Rd] using hd
      cases r1
      rw [PyData.shown_none] at q
      exact PySem.P.repr_of_none ⟨.str _, H, I.tok _, ⟨_, rfl⟩, q⟩
    | bool b =>
      obtain rfl : x = .bl b := by simpa only [Rd] using hd
      cases r1
      rw [PyData.shown_bool] at q
      refine PySem.P.repr_of_bool ⟨.str _, H, I.tok _, ⟨_, rfl⟩, ?_⟩
      cases b <;> exact q
    | int i =>
      obtain rfl : x = .int i := by simpa only [Rd] using hd
      obtain ⟨t, rfl⟩ := r1
      have h1' : i.natAbs.log2 < 1920 := by simpa [PyData.showable] using h1
      refine PySem.P.repr_of_int h1' ⟨.str _, H, I.tok _, ⟨_, rfl⟩, ?_⟩
      have e : (PyData.int i).shown = ((toString i : String) : Str) := PyData.shown_int i
      rw [e] at q
      exact q
    | str y =>
      obtain rfl : x = .str y := by simpa only [Rd] using hd
      obtain ⟨t, rfl⟩ := r1
      rw [PyData.shown_str] at q h3
      exact PySem.P.repr_of_str ⟨.str _, H, I.tok _, ⟨_, rfl⟩, q⟩ h3
    | list ds =>
      simp only [Rd] at hd
      obtain ⟨a, _, rfl, _⟩ := hd
      exact absurd ⟨a, r1⟩ hr
    | tuple ds =>
      simp only [Rd] at hd
      obtain ⟨a, _, rfl, _⟩ := hd
      exact absurd ⟨a, r1⟩ hr
    | dict ds =>
      simp only [Rd] at hd
      obtain ⟨a, _, rfl, _⟩ := hd
      exact absurd ⟨a, r1⟩ hr
end
end KT

set_option Elab.async false
set_option linter.all false
set_option maxRecDepth 100000
set_option maxHeartbeats 4000000
namespace KT
open PySem PySem.Spec PyProof.Rows L2
/-! ### defs whose promise wants that no repr is under way around their call -/
structure GnOk (P : Program) (w : World) (K : PySem.W.Frag) (mg : Str → Option Value) (base : Heap) (k : Nat) (f : Addr) (fd : FuncData) (ps : List Str) (sp : Sp) : Prop where
  len : ∀ vs H Q E, sp vs H Q E → vs.length = ps.length
  run : ∀ (A : Around) (outer : List Env) (s : Shared) (H : Hp) (us : List Value) (vs : List V) (Q : VK), A.guards = some [] → Room k A → Env0 P w K mg base A outer s H →
    BindsTo s fd ⟨us, []⟩ (ps.zip us) → Vals vs us → sp vs H Q E0 → codeAny (model P w) A (.call (.ref f) ⟨us, []⟩) (CR CX0 outer P w H s Q E0) s
section
variable {P : Program} {w : World} {K : PySem.W.Frag} {mg : Str → Option Value} {base : Heap}
theorem gn_of {x qual : Str} {st : Stmt} {f : Addr} {fd : FuncData} {N ps : List Str} {k : Nat} {sp : Sp} (F : Fun K x qual st f fd) (S : FnScope N ps (defScope st)) (len : ∀ vs H Q E, sp vs H Q E → vs.length = ps.length)
    (hbody : ∀ (cdv : Value) (A : Around) (outer : List Env) (s : Shared) (H : Hp) (vs : List V) (Q : VK), (A.deeper (envOfC qual (defScope st) s.heap.objs.size f cdv)).guards = some [] →
      Room k (A.deeper (envOfC qual (defScope st) s.heap.objs.size f cdv)) → sp vs H Q E0 →
      ∃ t, PSs (cxOf CX0 P w K mg base N qual (defScope st) f cdv A outer s H E0).nox (defBody st) t ∧ t { nx := fun _ H' => Q .non H', rt := Q } (start N vs) H) : GnOk P w K mg base (k + 1) f fd ps sp := by
  obtain ⟨oc, od, kV, doc, pm, an, cdv, ct, osl, rfl, lk, hcd⟩ := F.ex
  refine ⟨len, fun A outer s H us vs Q hgd room en hb r z => ?_⟩
  have hlen := len _ _ _ _ z
  have inK : K.In s.heap := en.mod.kin.keeps fun b o e => (en.bs b o e).1
  have limit : s.heap.NoLimit := en.mod.nolimit.keeps fun b o e => (en.bs b o e).1
  have kinds : ∀ y ∈ ps.zip us, (defScope st).names.lookup y.1 = some .local ∨ ((defScope st).names.lookup y.1 = some .cell ∧ ((cellsFrom (s.heap.objs.size + 1) (defScope st).names []).lookup y.1).isSome = true) := by
    rintro ⟨n, v⟩ hy
    rcases S.par n (List.of_mem_zip hy).1 with q | q
    · exact .inl q
    · exact .inr ⟨q, PySem.W.cellsFrom_some _ _ _ (.inl q)⟩
  have deep : (A.deeper (envOfC qual (defScope st) s.heap.objs.size f cdv)).guards = some [] := hgd
  refine codeAny_call_function room.depth (inK _ _ lk) rfl S.co S.gen rfl (PySem.W.codeRec_of inK hcd) (hb _ _ _ _ (wpAny_newFunctionEnv_cells S.kind kinds fun env he s1 x => ?_))
  subst he
  refine ⟨limit.keeps x.toInCall.keep, codeAny_func ?_⟩
  obtain ⟨t, ht, hq⟩ := hbody cdv A outer s H vs Q deep (room.deeper _) z
  have I := inv_start (CX := CX0) (E := E0) S room.hd en hlen r x
  refine wpAny_mono (ht.nox.run [] s1 (start N vs) H _ I hq) (fun fl s' hs => ?_) fun e s' hs => hs
  cases fl with
  | ret u =>
    obtain ⟨v, σ', H', J, rv, q⟩ := hs
    exact ⟨v, H', J.os, J.bare, J.base, J.hok, rv, q⟩
  | next =>
    obtain ⟨σ', H', J, q⟩ := hs
    exact ⟨V.non, H', J.os, J.bare, J.base, J.hok, rfl, q⟩
  | brk =>
    obtain ⟨_, _, _, q⟩ := hs
    exact q.elim
  | cont =>
    obtain ⟨_, _, _, q⟩ := hs
    exact q.elim
/-- such a def as its callers know it -/
structure Gee (P : Program) (w : World) (K : PySem.W.Frag) (mg : Str → Option Value) (base : Heap) (k : Nat) (x : Str) (ps : List Str) (sp : Sp) : Prop where
  ex : ∃ (f : Addr) (fd : FuncData), GnOk P w K mg base k f fd ps sp ∧ mg x = some (.ref f) ∧ PySem.W.keepIn K (.ref f) = true ∧ Binds K fd ps []
end
section
variable {X : Cx} {k j : Nat} {x : Str} {ps : List Str} {sp : Sp} {p pos : Pos} {e : Expr} {es : List Expr} {t : TA}
theorem pe_g (C : Gee X.prog X.w X.K X.mg X.base k x ps sp) (hgd : X.A.guards = some []) (hr : Room j X.A) (hg : Gl X x) (ha : PA X (e :: es) t) (hkj : k ≤ j := by decide) (hdb : (x == ("__debug__" : Str)) = false := by decide)
    (he : starEach (e :: es) X.env = (false, eval e X.env) :: starEach es X.env := by rfl) (hpl : (backTo pos (starEach es X.env)).any (·.1) = false := by rfl) : PE X (.Call (.Name x p) (e :: es) [] pos) (tCall sp [] E0 t) := by
  obtain ⟨f, fd, F, m, kp, b⟩ := C.ex
  refine ⟨fun pins s σ H Q I h => ?_⟩
  refine wpAny_Call_Name_kw (ld_glob I hg m ?_ hdb)
  refine PySem.W.callWith_K (h₀ := X.base) I.ok.mod.kin kp (thn (ha.run pos pins s σ H _ I h) fun us s1 ⟨vs, H1, I1, r, q⟩ => ⟨I1.kIn, ?_⟩) he hpl
  have q' : sp vs H1 Q E0 := by
    have q2 : sp (vs ++ []) H1 Q E0 := q
    rw [List.append_nil] at q2
    exact q2
  have hl : us.length = ps.length := r.length.symm.trans (F.len _ _ _ _ q')
  have bb := b s1 us I1.kIn (by rw [List.append_nil]; exact hl)
  rw [List.append_nil] at bb
  refine wpAny_call (codeAny_mono (F.run X.A X.stack s1 H1 us vs Q hgd (hr.mono hkj) I1.env0 bb r q') fun rr s' y => ?_)
  cases rr with
  | error er => exact y.elim
  | ok fl =>
    cases fl with
    | ret u => exact I1.after y
    | next => exact False.elim y
    | brk => exact False.elim y
    | cont => exact False.elim y
end
/-! ### the law's end from such a promise -/
theorem law_g {P : Program} {w : World} {K : PySem.W.Frag} {mg mb : Str → Option Value} {k : Nat} {fa a : Addr} {fd : FuncData} {x : Str} {sp : Sp} {s₁ : Shared} {vs : List Value} {ns : List Int}
    (KX : K.In s₁.heap) (gN : s₁.heap.Ns mainGlobals mg) (bN : s₁.heap.Ns builtinsNs mb) (same : ∀ x : Str, x ≠ "__name__" → mb x = bootBuiltins x) (limit : s₁.heap.NoLimit) (noG : s₁.gens = #[])
    (ha : s₁.heap.get? a = some { cls := .type "list", data := .seq vs.toArray }) (hi : IntsAre vs ns) (few : ns.length ≤ sizeLine) (room : Room k callerA)
    (F : ∀ base : Heap, K.In base → base.Ns mainGlobals mg → GnOk P w K mg base k fa fd [x] sp) (hbind : ∀ (s : Shared) (u : Value), BindsTo s fd ⟨[u], []⟩ [(x, u)])
    (z : ∀ H : Hp, SqL K H a (ns.map V.int) → (∀ b u, H b = some u → b = a) → sp [.ref a] H (fun v _ => v = .bl true) E0) :
    codeAny (model P w) callerA (.call (.ref fa) ⟨[.ref a], []⟩) (fun r s' => r = .ok (.ret (.bool true)) ∧ OldK s₁.heap s'.heap ∧ s'.os = s₁.os ∧ AllBare s'.gens) s₁ := by
  have vals := vals_ints hi
  -- the abstract heap tracks the script (or nothing, where it is the module's own)
  have main : ∀ H : Hp, SqL K H a (ns.map V.int) → HOk P w H s₁.heap → (∀ b u, H b = some u → b = a ∧ K.lookup a = none ∧ ∃ o xs, u = .frz o (.lst xs)) →
      codeAny (model P w) callerA (.call (.ref fa) ⟨[.ref a], []⟩) (fun r s' => r = .ok (.ret (.bool true)) ∧ OldK s₁.heap s'.heap ∧ s'.os = s₁.os ∧ AllBare s'.gens) s₁ := by
    intro H sq ok one
    have none_of : ∀ {b : Addr} {o : Obj} {es : Array DictEntry} {ep : Nat}, s₁.heap.get? b = some o → o.data = .dict es ep → H b = none := by
      intro b o es ep e d
      cases q : H b with
      | none => rfl
      | some u =>
        obtain ⟨rfl, _⟩ := one b u q
        rw [ha] at e
        cases e
        have d2 : Data.seq vs.toArray _ = Data.dict es ep := d
        cases d2
    have ns_of : ∀ {b : Addr} {m : Str → Option Value}, s₁.heap.Ns b m → (hidT s₁.heap H).Ns b m := by
      rintro b m ⟨o, es, ep, e, d, r⟩
      exact ⟨o, es, ep, hidT_get e (none_of e d), d, r⟩
    have inK : K.In (hidT s₁.heap H) := by
      intro b o e
      refine hidT_get (KX b o e) ?_
      cases q : H b with
      | none => rfl
      | some u =>
        obtain ⟨rfl, q2, _⟩ := one b u q
        rw [q2] at e
        cases e
    obtain ⟨mc, l1, l2⟩ := limit
    have md : Mod K mg (hidT s₁.heap H) := ⟨inK, ns_of gN, ⟨mb, ns_of bN, same⟩, ⟨mc, ns_of l1, l2⟩⟩
    have en : Env0 P w K mg (hidT s₁.heap H) callerA [] s₁ H :=
      ⟨rfl, md, fun b o e => of_hidT e, Nat.le_of_eq (hidT_size _ _), trivial, fun b hb => (List.not_mem_nil hb).elim, ok, .of_eq noG⟩
    refine codeAny_mono ((F _ inK (ns_of gN)).run callerA [] s₁ H [.ref a] [.ref a] _ rfl room en (hbind s₁ (.ref a)) (.cons (show L2.RelV (.ref a) (Value.ref a) from rfl) .nil) (z H sq fun b u q => (one b u q).1)) fun r s' y => ?_
    cases r with
    | error e => exact y.elim
    | ok fl =>
      cases fl with
      | next => exact False.elim y
      | brk => exact False.elim y
      | cont => exact False.elim y
      | ret u =>
        obtain ⟨v, H', os, bare, un, ok', r', q⟩ := y
        have qv : v = .bl true := q
        subst qv
        obtain rfl : u = Value.bool true := r'
        refine ⟨rfl, OldK.of_keep fun b o e => ?_, os, bare⟩
        cases q2 : H b with
        | none => exact un.keep b o e q2 (fun w => (List.not_mem_nil w).elim) (fun w => (List.not_mem_nil w).elim)
        | some u =>
          obtain ⟨_, _, ob, xs, rfl⟩ := one b u q2
          obtain ⟨e1, _⟩ := ok b _ q2
          obtain ⟨e2, _⟩ := ok' b _ (un.frzs b ob _ q2)
          rw [e] at e1
          cases e1
          exact e2
  cases hk : K.lookup a with
  | some o =>
    have e := KX a o hk
    rw [ha] at e
    cases e
    refine main (fun _ => none) (.inr ⟨_, vs.toArray, _, hk, rfl, rfl, rfl, ?_, by simpa using vals⟩) (fun b u q => ?_) fun b u q => ?_
    · rw [List.size_toArray, hi.length]
      exact few
    · have q2 : (none : Option HO) = some u := q
      cases q2
    · have q2 : (none : Option HO) = some u := q
      cases q2
  | none =>
    refine main (fun b => if b = a then some (.frz { cls := .type "list", data := .seq vs.toArray } (.lst (ns.map V.int))) else none) (.inl (.inr ⟨{ cls := .type "list", data := .seq vs.toArray }, if_pos rfl⟩)) (fun b u q => ?_) fun b u q => ?_
    · by_cases hb : b = a
      · subst hb
        have q2 := (if_pos rfl).symm.trans q
        cases q2
        refine ⟨ha, ?_, vs, _, vals, ha⟩
        rw [List.length_map]
        exact few
      · have q2 := (if_neg hb).symm.trans q
        cases q2
    · by_cases hb : b = a
      · subst hb
        have q2 := (if_pos rfl).symm.trans q
        cases q2
        exact ⟨rfl, hk, _, _, rfl⟩
      · have q2 := (if_neg hb).symm.trans q
        cases q2
theorem walk_g {l : PySem.W.OpenLaw} {n k : Nat} {q : Program} {loose : List Str} {XP : (Str → Option Value) → Heap → Prop} {YP : World → Heap → Prop} {d : DefRec} {x : Str}
    (hn : l.most = some n) (hn2 : n ≤ sizeLine) (hdf : d.params.defaults = []) (room : Room k callerA)
    (F : ∀ (w : World) (mg : Str → Option Value) (fa : Addr) (h : Heap), YP w h → h.Ns mainGlobals mg → mg d.name = some (.ref fa) →
      ∃ (K : PySem.W.Frag) (fd : FuncData) (sp : Sp), K.In h ∧ (∀ (s : Shared) (u : Value), BindsTo s fd ⟨[u], []⟩ [(x, u)]) ∧
        (∀ (H : Hp) (a : Addr) (ns : List Int), ns.length ≤ n → SqL K H a (ns.map V.int) → (∀ b u, H b = some u → b = a) → sp [.ref a] H (fun v _ => v = .bl true) E0) ∧
        ∀ base : Heap, K.In base → base.Ns mainGlobals mg → GnOk l.prog w K mg base k fa fd [x] sp) :
    PySem.W.WalkO q loose XP YP l.row.toRowW d [] (fun f vs => PySem.call f vs) := by
  refine Att.attach_call hn hdf fun w s₀ s₁ mg mb fa o pm cd doc a vs ns G Y ho hd hcd hmg hobj hints hlen noG => ?_
  obtain ⟨K, fd, sp, KX, hb, z, hF⟩ := F w mg fa _ Y G.T.g hmg
  exact law_g KX G.T.g G.T.b G.T.builtins G.T.nolimit noG hobj hints (Nat.le_trans hlen hn2) room hF hb fun H sq one => z H a ns hlen sq one
end KT

set_option Elab.async false
set_option linter.all false
set_option maxRecDepth 100000
set_option maxHeartbeats 4000000
namespace KT
open PySem PySem.Spec PyProof.Rows L2
abbrev sFirst : Stmt := top 37
abbrev sCalled : Stmt := top 38
abbrev sBare : Stmt := top 39
abbrev sCode : Stmt := top 40
abbrev sIsErr : Stmt := top 41
abbrev sRight : Stmt := top 42
abbrev sLaw : Stmt := top 43
/-! ### steps that hand on a new heap by what is known of it -/
theorem Same.new {H : Hp} {p : Addr} {o : HO} (h : H p = none) : L2.Same H (upd H p o) := fun b u e => by
  rw [upd_ne (ne_of_none e h)]
  exact e
theorem same_mk {H : Hp} {a d C : Addr} {v : V} (ha : H a = none) (hd : H d = none) : L2.Same H (mkErr H a d C v) := fun b u e => by
  rw [mkErr_ne (ne_of_none e ha) (ne_of_none e hd)]
  exact e
/-- a row of errors of these classes, one for each, whose field is v -/
def ErrRow (H : Hp) (v : V) : List Addr → List V → Prop
  | [], xs => xs = []
  | C :: Cs, xs => ∃ (a : Addr) (t : List V), xs = .ref a :: t ∧ ErrAt H a C v ∧ ErrRow H v Cs t
theorem ErrAt.mono {H H' : Hp} {a C : Addr} {v : V} (s : L2.Same H H') (h : ErrAt H a C v) : ErrAt H' a C v := by
  obtain ⟨d, h1, h2⟩ := h
  exact ⟨d, s _ _ h1, s _ _ h2⟩
theorem ErrRow.mono {H H' : Hp} {v : V} (s : L2.Same H H') : ∀ {Cs : List Addr} {xs : List V}, ErrRow H v Cs xs → ErrRow H' v Cs xs
  | [], _, h => h
  | C :: Cs, _, ⟨a, t, e, h1, h2⟩ => ⟨a, t, e, h1.mono s, ErrRow.mono s h2⟩
theorem ErrRow.len {H : Hp} {v : V} : ∀ {Cs : List Addr} {xs : List V}, ErrRow H v Cs xs → xs.length = Cs.length
  | [], _, h => by rw [show _ = [] from h]; rfl
  | C :: Cs, _, ⟨a, t, e, h1, h2⟩ => by rw [e, List.length_cons, List.length_cons, ErrRow.len h2]
theorem ErrRow.append {H : Hp} {v : V} : ∀ {Cs Ds : List Addr} {xs ys : List V}, ErrRow H v Cs xs → ErrRow H v Ds ys → ErrRow H v (Cs ++ Ds) (xs ++ ys)
  | [], _, _, _, h, k => by rw [show _ = [] from h]; exact k
  | C :: Cs, _, _, _, ⟨a, t, e, h1, h2⟩, k => ⟨a, t ++ _, by rw [e]; rfl, h1, ErrRow.append h2 k⟩
theorem ErrRow.at {H : Hp} {v : V} : ∀ {Cs : List Addr} {xs : List V} {i : Nat} {x : V}, ErrRow H v Cs xs → xs[i]? = some x → ∃ a C, x = .ref a ∧ Cs[i]? = some C ∧ ErrAt H a C v
  | [], _, i, x, h, k => by
    rw [show _ = [] from h] at k
    simp at k
  | C :: Cs, _, 0, x, ⟨a, t, e, h1, h2⟩, k => by
    rw [e] at k
    simp at k
    exact ⟨a, C, k.symm, rfl, h1⟩
  | C :: Cs, _, i + 1, x, ⟨a, t, e, h1, h2⟩, k => by
    rw [e] at k
    obtain ⟨b, D, p, q, r⟩ := ErrRow.at (Cs := Cs) h2 (i := i) (x := x) (by simpa using k)
    exact ⟨b, D, p, by simpa using q, r⟩
def argsE (t : Addr → TE) (Cs : List Addr) : TA := Cs.foldr (fun C u => tCons (t C) u) tNil
/-- what the three ways of making have in common -/
def MakesE (t : Addr → TE) (σ : L2.St) (v : V) : Prop := ∀ (C : Addr) (H : Hp) (Q : VK), (∀ a H', L2.Same H H' → ErrAt H' a C v → Q (.ref a) H') → t C σ H Q
theorem makes_1 {σ : L2.St} {v : V} (hv : σ[0]? = some (some v)) : MakesE (fun C => tE C (tVar 0)) σ v := fun C H Q k =>
  ⟨v, hv, fun a d ha hd hda => k a _ (same_mk ha hd) (errAt_mk hda)⟩
theorem makes_K {σ : L2.St} {v : V} (hv : σ[0]? = some (some v)) : MakesE (fun C => tEK C (tVar 0)) σ v := fun C H Q k =>
  ⟨v, hv, rfl, fun a d ha hd hda => k a _ (same_mk ha hd) (errAt_mk hda)⟩
theorem makes_0 {σ : L2.St} : MakesE tE0 σ .non := fun C H Q k a d ha hd hda => k a _ (same_mk ha hd) (errAt_mk hda)
theorem args_E {t : Addr → TE} {σ : L2.St} {v : V} (M : MakesE t σ v) : ∀ (Cs : List Addr) (H : Hp) (Q : List V → Hp → Prop), (∀ xs H', L2.Same H H' → ErrRow H' v Cs xs → Q xs H') → argsE t Cs σ H Q
  | [], H, Q, k => k [] H (L2.Same.refl H) rfl
  | C :: Cs, H, Q, k => by
    show t C σ H fun x H1 => argsE t Cs σ H1 fun xs H2 => Q (x :: xs) H2
    refine M C H _ fun a H1 s1 e1 => ?_
    refine args_E M Cs H1 _ fun xs H2 s2 e2 => ?_
    exact k _ _ (s1.trans s2) ⟨a, xs, rfl, e1.mono s2, e2⟩
/-- [A(..), B(..), ..] -/
theorem lst_E {t : Addr → TE} {σ : L2.St} {v : V} (M : MakesE t σ v) {Cs : List Addr} {H : Hp} {Q : VK} (few : Cs.length ≤ 1000) (k : ∀ p xs H', L2.Same H H' → H' p = some (.lst xs) → ErrRow H' v Cs xs → Q (.ref p) H') : tLst (argsE t Cs) σ H Q := by
  refine args_E M Cs H _ fun xs H1 s1 e1 => ⟨?_, fun p hp => ?_⟩
  · rw [e1.len]
    exact Nat.le_of_lt (small1000 few)
  · exact k p xs _ (s1.trans (Same.new hp)) upd_same (e1.mono (Same.new hp))
/-- found = found + [A(..), B(..), ..], found in slot i -/
theorem row_E {t : Addr → TE} {σ : L2.St} {v : V} (M : MakesE t σ v) {i : Nat} {l : Addr} {xs : List V} {Cs Ds : List Addr} {H : Hp} {D : Ends} (hi : σ[i]? = some (some (.ref l))) (hl : H l = some (.lst xs)) (er : ErrRow H v Cs xs)
    (few : Cs.length + Ds.length ≤ 1000) (k : ∀ p ys H', L2.Same H H' → H' p = some (.lst ys) → ErrRow H' v (Cs ++ Ds) ys → D.nx (σ.set i (some (.ref p))) H') : tAsg (tOp rCat (tVar i) (tLst (argsE t Ds))) (gName i) D σ H := by
  refine ⟨_, hi, lst_E M (by omega) fun p ys H1 s1 h1 e1 => ?_⟩
  refine ⟨l, p, xs, ys, rfl, rfl, s1 _ _ hl, h1, ?_, fun q hq => ?_⟩
  · have e2 := er.len
    have e3 := e1.len
    exact Nat.le_of_lt (small1000 (by omega))
  · exact k q _ _ (s1.trans (Same.new hq)) upd_same ((er.mono (s1.trans (Same.new hq))).append (e1.mono (Same.new hq)))
theorem first_E {t : Addr → TE} {σ : L2.St} {v : V} (M : MakesE t σ v) {i : Nat} {Ds : List Addr} {H : Hp} {D : Ends} (few : Ds.length ≤ 1000)
    (k : ∀ p ys H', L2.Same H H' → H' p = some (.lst ys) → ErrRow H' v Ds ys → D.nx (σ.set i (some (.ref p))) H') : tAsg (tLst (argsE t Ds)) (gName i) D σ H := lst_E M few fun p ys H1 s1 h1 e1 => k p ys H1 s1 h1 e1
def spRow (Cs : List Addr) : Sp := fun vs H Q _ => ∃ v : V, vs = [v] ∧ ∀ l xs H', L2.Same H H' → H' l = some (.lst xs) → ErrRow H' v Cs xs → Q (.ref l) H'
def spRow0 (Cs : List Addr) : Sp := fun vs H Q _ => vs = [] ∧ ∀ l xs H', L2.Same H H' → H' l = some (.lst xs) → ErrRow H' .non Cs xs → Q (.ref l) H'
def errNames : List Str := ["InvalidTable", "InvalidKind", "InvalidKinds", "InvalidDeeds", "InvalidDeed", "InvalidTwice", "InvalidSetting", "InvalidLog", "InvalidLogs", "InvalidPlace", "InvalidCount", "InvalidRow", "InvalidTree", "InvalidMap", "InvalidMoves", "InvalidStore", "InvalidState", "InvalidMarks", "InvalidFalls", "InvalidDesk", "InvalidScript", "InvalidText", "InvalidRecord", "Unlike", "Endless", "Refused"]
/-- the classes of the text: C i the address of the i-th one -/
structure Errs (P : Program) (w : World) (K : PySem.W.Frag) (mg : Str → Option Value) (base : Heap) (C : Nat → Addr) : Prop where
  e : ∀ (i : Nat) (x : Str), errNames[i]? = some x → ErrC P w K mg base x (C i)
section
variable {P : Program} {w : World} {K : PySem.W.Frag} {mg : Str → Option Value} {base : Heap} {C : Nat → Addr}
abbrev all26 (C : Nat → Addr) : List Addr := [C 0, C 1, C 2, C 3, C 4, C 5, C 6, C 7, C 8, C 9, C 10, C 11, C 12, C 13, C 14, C 15, C 16, C 17, C 18, C 19, C 20, C 21, C 22, C 23, C 24, C 25]
theorem scFirst : FnScope ["_law_thing", "_law_found"] ["_law_thing"] (defScope sFirst) := ⟨rfl, rfl, rfl, by decide +kernel, rfl, by decide +kernel, by decide +kernel⟩
theorem ok_First {f : Addr} {fd : FuncData} (F : Fun K "_law_first" "_law_first" sFirst f fd) (Z : Errs P w K mg base C) : FnOk P w K mg base CX0 3 f fd ["_law_thing"] (spRow (all26 C)) := by
  refine F.ok scFirst (fun vs H Q E h => ?_) (fun cdv A outer s H vs Q E hr h => ?_)
  · obtain ⟨v, rfl, _⟩ := h
    rfl
  · obtain ⟨v, rfl, k⟩ := h
    have nd := scFirst.nd
    refine ⟨_, (pss_cons (ps_set (i := 1) nd rfl (Or.inl rfl) (pe_lst (pa_cons (pe_e1 (Z.e 0 _ rfl) hr rfl (pv 0)) (pa_cons (pe_e1 (Z.e 1 _ rfl) hr rfl (pv 0)) (pa_cons (pe_e1 (Z.e 2 _ rfl) hr rfl (pv 0)) (pa_cons (pe_e1 (Z.e 3 _ rfl) hr rfl (pv 0)) pa_nil))))))
      (pss_cons (ps_set (i := 1) nd rfl (Or.inl rfl) (pe_op op_cat (pv 1) (pe_lst (pa_cons (pe_e1 (Z.e 4 _ rfl) hr rfl (pv 0)) (pa_cons (pe_e1 (Z.e 5 _ rfl) hr rfl (pv 0)) (pa_cons (pe_e1 (Z.e 6 _ rfl) hr rfl (pv 0)) (pa_cons (pe_e1 (Z.e 7 _ rfl) hr rfl (pv 0)) pa_nil)))))))
      (pss_cons (ps_set (i := 1) nd rfl (Or.inl rfl) (pe_op op_cat (pv 1) (pe_lst (pa_cons (pe_e1 (Z.e 8 _ rfl) hr rfl (pv 0)) (pa_cons (pe_e1 (Z.e 9 _ rfl) hr rfl (pv 0)) (pa_cons (pe_e1 (Z.e 10 _ rfl) hr rfl (pv 0)) (pa_cons (pe_e1 (Z.e 11 _ rfl) hr rfl (pv 0)) pa_nil)))))))
      (pss_cons (ps_set (i := 1) nd rfl (Or.inl rfl) (pe_op op_cat (pv 1) (pe_lst (pa_cons (pe_e1 (Z.e 12 _ rfl) hr rfl (pv 0)) (pa_cons (pe_e1 (Z.e 13 _ rfl) hr rfl (pv 0)) (pa_cons (pe_e1 (Z.e 14 _ rfl) hr rfl (pv 0)) (pa_cons (pe_e1 (Z.e 15 _ rfl) hr rfl (pv 0)) pa_nil)))))))
      (pss_cons (ps_set (i := 1) nd rfl (Or.inl rfl) (pe_op op_cat (pv 1) (pe_lst (pa_cons (pe_e1 (Z.e 16 _ rfl) hr rfl (pv 0)) (pa_cons (pe_e1 (Z.e 17 _ rfl) hr rfl (pv 0)) (pa_cons (pe_e1 (Z.e 18 _ rfl) hr rfl (pv 0)) (pa_cons (pe_e1 (Z.e 19 _ rfl) hr rfl (pv 0)) pa_nil)))))))
      (pss_cons (ps_set (i := 1) nd rfl (Or.inl rfl) (pe_op op_cat (pv 1) (pe_lst (pa_cons (pe_e1 (Z.e 20 _ rfl) hr rfl (pv 0)) (pa_cons (pe_e1 (Z.e 21 _ rfl) hr rfl (pv 0)) (pa_cons (pe_e1 (Z.e 22 _ rfl) hr rfl (pv 0)) (pa_cons (pe_e1 (Z.e 23 _ rfl) hr rfl (pv 0)) pa_nil)))))))
      (pss_cons (ps_set (i := 1) nd rfl (Or.inl rfl) (pe_op op_cat (pv 1) (pe_lst (pa_cons (pe_e1 (Z.e 24 _ rfl) hr rfl (pv 0)) (pa_cons (pe_e1 (Z.e 25 _ rfl) hr rfl (pv 0)) pa_nil)))))
      (pss_one (ps_ret (pv 1)))))))))), ?_⟩
    refine first_E (Ds := [C 0, C 1, C 2, C 3]) (makes_1 rfl) (by simp) fun p0 y0 H0 s0 h0 e0 => ?_
    refine row_E (Ds := [C 4, C 5, C 6, C 7]) (makes_1 rfl) rfl h0 e0 (by simp) fun p1 y1 H1 s1 h1 e1 => ?_
    refine row_E (Ds := [C 8, C 9, C 10, C 11]) (makes_1 rfl) rfl h1 e1 (by simp) fun p2 y2 H2 s2 h2 e2 => ?_
    refine row_E (Ds := [C 12, C 13, C 14, C 15]) (makes_1 rfl) rfl h2 e2 (by simp) fun p3 y3 H3 s3 h3 e3 => ?_
    refine row_E (Ds := [C 16, C 17, C 18, C 19]) (makes_1 rfl) rfl h3 e3 (by simp) fun p4 y4 H4 s4 h4 e4 => ?_
    refine row_E (Ds := [C 20, C 21, C 22, C 23]) (makes_1 rfl) rfl h4 e4 (by simp) fun p5 y5 H5 s5 h5 e5 => ?_
    refine row_E (Ds := [C 24, C 25]) (makes_1 rfl) rfl h5 e5 (by simp) fun p6 y6 H6 s6 h6 e6 => ?_
    exact ⟨_, rfl, k _ _ _ ((((((s0.trans s1).trans s2).trans s3).trans s4).trans s5).trans s6) h6 e6⟩
theorem scCalled : FnScope ["_law_thing", "_law_found"] ["_law_thing"] (defScope sCalled) := ⟨rfl, rfl, rfl, by decide +kernel, rfl, by decide +kernel, by decide +kernel⟩
theorem ok_Called {f : Addr} {fd : FuncData} (F : Fun K "_law_called" "_law_called" sCalled f fd) (Z : Errs P w K mg base C) : FnOk P w K mg base CX0 3 f fd ["_law_thing"] (spRow (all26 C)) := by
  refine F.ok scCalled (fun vs H Q E h => ?_) (fun cdv A outer s H vs Q E hr h => ?_)
  · obtain ⟨v, rfl, _⟩ := h
    rfl
  · obtain ⟨v, rfl, k⟩ := h
    have nd := scCalled.nd
    refine ⟨_, (pss_cons (ps_set (i := 1) nd rfl (Or.inl rfl) (pe_lst (pa_cons (pe_eK (Z.e 0 _ rfl) hr rfl (pv 0)) (pa_cons (pe_eK (Z.e 1 _ rfl) hr rfl (pv 0)) (pa_cons (pe_eK (Z.e 2 _ rfl) hr rfl (pv 0)) pa_nil)))))
      (pss_cons (ps_set (i := 1) nd rfl (Or.inl rfl) (pe_op op_cat (pv 1) (pe_lst (pa_cons (pe_eK (Z.e 3 _ rfl) hr rfl (pv 0)) (pa_cons (pe_eK (Z.e 4 _ rfl) hr rfl (pv 0)) (pa_cons (pe_eK (Z.e 5 _ rfl) hr rfl (pv 0)) pa_nil))))))
      (pss_cons (ps_set (i := 1) nd rfl (Or.inl rfl) (pe_op op_cat (pv 1) (pe_lst (pa_cons (pe_eK (Z.e 6 _ rfl) hr rfl (pv 0)) (pa_cons (pe_eK (Z.e 7 _ rfl) hr rfl (pv 0)) (pa_cons (pe_eK (Z.e 8 _ rfl) hr rfl (pv 0)) pa_nil))))))
      (pss_cons (ps_set (i := 1) nd rfl (Or.inl rfl) (pe_op op_cat (pv 1) (pe_lst (pa_cons (pe_eK (Z.e 9 _ rfl) hr rfl (pv 0)) (pa_cons (pe_eK (Z.e 10 _ rfl) hr rfl (pv 0)) (pa_cons (pe_eK (Z.e 11 _ rfl) hr rfl (pv 0)) pa_nil))))))
      (pss_cons (ps_set (i := 1) nd rfl (Or.inl rfl) (pe_op op_cat (pv 1) (pe_lst (pa_cons (pe_eK (Z.e 12 _ rfl) hr rfl (pv 0)) (pa_cons (pe_eK (Z.e 13 _ rfl) hr rfl (pv 0)) (pa_cons (pe_eK (Z.e 14 _ rfl) hr rfl (pv 0)) pa_nil))))))
      (pss_cons (ps_set (i := 1) nd rfl (Or.inl rfl) (pe_op op_cat (pv 1) (pe_lst (pa_cons (pe_eK (Z.e 15 _ rfl) hr rfl (pv 0)) (pa_cons (pe_eK (Z.e 16 _ rfl) hr rfl (pv 0)) (pa_cons (pe_eK (Z.e 17 _ rfl) hr rfl (pv 0)) pa_nil))))))
      (pss_cons (ps_set (i := 1) nd rfl (Or.inl rfl) (pe_op op_cat (pv 1) (pe_lst (pa_cons (pe_eK (Z.e 18 _ rfl) hr rfl (pv 0)) (pa_cons (pe_eK (Z.e 19 _ rfl) hr rfl (pv 0)) (pa_cons (pe_eK (Z.e 20 _ rfl) hr rfl (pv 0)) pa_nil))))))
      (pss_cons (ps_set (i := 1) nd rfl (Or.inl rfl) (pe_op op_cat (pv 1) (pe_lst (pa_cons (pe_eK (Z.e 21 _ rfl) hr rfl (pv 0)) (pa_cons (pe_eK (Z.e 22 _ rfl) hr rfl (pv 0)) (pa_cons (pe_eK (Z.e 23 _ rfl) hr rfl (pv 0)) pa_nil))))))
      (pss_cons (ps_set (i := 1) nd rfl (Or.inl rfl) (pe_op op_cat (pv 1) (pe_lst (pa_cons (pe_eK (Z.e 24 _ rfl) hr rfl (pv 0)) (pa_cons (pe_eK (Z.e 25 _ rfl) hr rfl (pv 0)) pa_nil)))))
      (pss_one (ps_ret (pv 1)))))))))))), ?_⟩
    refine first_E (Ds := [C 0, C 1, C 2]) (makes_K rfl) (by simp) fun p0 y0 H0 s0 h0 e0 => ?_
    refine row_E (Ds := [C 3, C 4, C 5]) (makes_K rfl) rfl h0 e0 (by simp) fun p1 y1 H1 s1 h1 e1 => ?_
    refine row_E (Ds := [C 6, C 7, C 8]) (makes_K rfl) rfl h1 e1 (by simp) fun p2 y2 H2 s2 h2 e2 => ?_
    refine row_E (Ds := [C 9, C 10, C 11]) (makes_K rfl) rfl h2 e2 (by simp) fun p3 y3 H3 s3 h3 e3 => ?_
    refine row_E (Ds := [C 12, C 13, C 14]) (makes_K rfl) rfl h3 e3 (by simp) fun p4 y4 H4 s4 h4 e4 => ?_
    refine row_E (Ds := [C 15, C 16, C 17]) (makes_K rfl) rfl h4 e4 (by simp) fun p5 y5 H5 s5 h5 e5 => ?_
    refine row_E (Ds := [C 18, C 19, C 20]) (makes_K rfl) rfl h5 e5 (by simp) fun p6 y6 H6 s6 h6 e6 => ?_
    refine row_E (Ds := [C 21, C 22, C 23]) (makes_K rfl) rfl h6 e6 (by simp) fun p7 y7 H7 s7 h7 e7 => ?_
    refine row_E (Ds := [C 24, C 25]) (makes_K rfl) rfl h7 e7 (by simp) fun p8 y8 H8 s8 h8 e8 => ?_
    exact ⟨_, rfl, k _ _ _ ((((((((s0.trans s1).trans s2).trans s3).trans s4).trans s5).trans s6).trans s7).trans s8) h8 e8⟩
theorem scBare : FnScope ["_law_found"] [] (defScope sBare) := ⟨rfl, rfl, rfl, by decide +kernel, rfl, by decide +kernel, by decide +kernel⟩
theorem ok_Bare {f : Addr} {fd : FuncData} (F : Fun K "_law_bare" "_law_bare" sBare f fd) (Z : Errs P w K mg base C) : FnOk P w K mg base CX0 3 f fd [] (spRow0 (all26 C)) := by
  refine F.ok scBare (fun vs H Q E h => ?_) (fun cdv A outer s H vs Q E hr h => ?_)
  · obtain ⟨rfl, _⟩ := h
    rfl
  · obtain ⟨rfl, k⟩ := h
    have nd := scBare.nd
    refine ⟨_, (pss_cons (ps_set (i := 0) nd rfl (Or.inl rfl) (pe_lst (pa_cons (pe_e0 (Z.e 0 _ rfl) hr rfl) (pa_cons (pe_e0 (Z.e 1 _ rfl) hr rfl) (pa_cons (pe_e0 (Z.e 2 _ rfl) hr rfl) (pa_cons (pe_e0 (Z.e 3 _ rfl) hr rfl) (pa_cons (pe_e0 (Z.e 4 _ rfl) hr rfl) (pa_cons (pe_e0 (Z.e 5 _ rfl) hr rfl) pa_nil))))))))
      (pss_cons (ps_set (i := 0) nd rfl (Or.inl rfl) (pe_op op_cat (pv 0) (pe_lst (pa_cons (pe_e0 (Z.e 6 _ rfl) hr rfl) (pa_cons (pe_e0 (Z.e 7 _ rfl) hr rfl) (pa_cons (pe_e0 (Z.e 8 _ rfl) hr rfl) (pa_cons (pe_e0 (Z.e 9 _ rfl) hr rfl) (pa_cons (pe_e0 (Z.e 10 _ rfl) hr rfl) (pa_cons (pe_e0 (Z.e 11 _ rfl) hr rfl) pa_nil)))))))))
      (pss_cons (ps_set (i := 0) nd rfl (Or.inl rfl) (pe_op op_cat (pv 0) (pe_lst (pa_cons (pe_e0 (Z.e 12 _ rfl) hr rfl) (pa_cons (pe_e0 (Z.e 13 _ rfl) hr rfl) (pa_cons (pe_e0 (Z.e 14 _ rfl) hr rfl) (pa_cons (pe_e0 (Z.e 15 _ rfl) hr rfl) (pa_cons (pe_e0 (Z.e 16 _ rfl) hr rfl) (pa_cons (pe_e0 (Z.e 17 _ rfl) hr rfl) pa_nil)))))))))
      (pss_cons (ps_set (i := 0) nd rfl (Or.inl rfl) (pe_op op_cat (pv 0) (pe_lst (pa_cons (pe_e0 (Z.e 18 _ rfl) hr rfl) (pa_cons (pe_e0 (Z.e 19 _ rfl) hr rfl) (pa_cons (pe_e0 (Z.e 20 _ rfl) hr rfl) (pa_cons (pe_e0 (Z.e 21 _ rfl) hr rfl) (pa_cons (pe_e0 (Z.e 22 _ rfl) hr rfl) (pa_cons (pe_e0 (Z.e 23 _ rfl) hr rfl) pa_nil)))))))))
      (pss_cons (ps_set (i := 0) nd rfl (Or.inl rfl) (pe_op op_cat (pv 0) (pe_lst (pa_cons (pe_e0 (Z.e 24 _ rfl) hr rfl) (pa_cons (pe_e0 (Z.e 25 _ rfl) hr rfl) pa_nil)))))
      (pss_one (ps_ret (pv 0)))))))), ?_⟩
    refine first_E (Ds := [C 0, C 1, C 2, C 3, C 4, C 5]) (makes_0) (by simp) fun p0 y0 H0 s0 h0 e0 => ?_
    refine row_E (Ds := [C 6, C 7, C 8, C 9, C 10, C 11]) (makes_0) rfl h0 e0 (by simp) fun p1 y1 H1 s1 h1 e1 => ?_
    refine row_E (Ds := [C 12, C 13, C 14, C 15, C 16, C 17]) (makes_0) rfl h1 e1 (by simp) fun p2 y2 H2 s2 h2 e2 => ?_
    refine row_E (Ds := [C 18, C 19, C 20, C 21, C 22, C 23]) (makes_0) rfl h2 e2 (by simp) fun p3 y3 H3 s3 h3 e3 => ?_
    refine row_E (Ds := [C 24, C 25]) (makes_0) rfl h3 e3 (by simp) fun p4 y4 H4 s4 h4 e4 => ?_
    exact ⟨_, rfl, k _ _ _ ((((s0.trans s1).trans s2).trans s3).trans s4) h4 e4⟩
end
end KT

set_option Elab.async false
set_option linter.all false
set_option maxRecDepth 100000
set_option maxHeartbeats 4000000
namespace KT
open PySem PySem.Spec PyProof.Rows L2
/-! ### which class an error is of -/
abbrev all28 (C : Nat → Addr) : List Addr := all26 C ++ [C 26, C 27]
structure Kits (K : PySem.W.Frag) (C : Nat → Addr) (T : Addr) : Prop where
  i : ∀ i, i < 28 → ErrI K (C i)
  iT : ErrI K T
  f : ∀ i, i < 26 → ErrF K (C i)
  kit : ∀ i j, i < 28 → j < 28 → PySem.W.kitOne K (.ref (C i)) (.ref (C j)) = some (decide (j = i))
  kitT : ∀ j, j < 28 → PySem.W.kitOne K (.ref T) (.ref (C j)) = some false
  up : ∀ i, i < 28 → PySem.W.kitOne K (.ref (C i)) (.ref T) = some true
  upT : PySem.W.kitOne K (.ref T) (.ref T) = some true
  ve : ∀ i, i < 28 → PySem.W.kitOne K (.ref (C i)) (.type "ValueError") = some true
  veT : PySem.W.kitOne K (.ref T) (.type "ValueError") = some true
/-- an error of the class at D stands at a -/
def IsExo (H : Hp) (a D : Addr) : Prop := ∃ d, H a = some (exo a D d) ∧ ∀ dd, d = some dd → ∃ fs, H dd = some (exd dd fs)
theorem ErrAt.isExo {H : Hp} {a D : Addr} {v : V} (h : ErrAt H a D v) : IsExo H a D := by
  obtain ⟨d, h1, h2⟩ := h
  exact ⟨some d, h1, fun dd e => ⟨_, by cases e; exact h2⟩⟩
theorem IsExo.mono {H H' : Hp} {a D : Addr} (s : L2.Same H H') (h : IsExo H a D) : IsExo H' a D := by
  obtain ⟨d, h1, h2⟩ := h
  exact ⟨d, s _ _ h1, fun dd e => by
    obtain ⟨fs, q⟩ := h2 dd e
    exact ⟨fs, s _ _ q⟩⟩
def argsI (K : PySem.W.Frag) (Cs : List Addr) : TA := Cs.foldr (fun C u => tCons (tCB (rIE K) (tCons (tVar 0) (tCons (tC (.ref C)) tNil))) u) tNil
def KitRow (K : PySem.W.Frag) (D : Addr) (Cs : List Addr) (bs : List Bool) : Prop := Paired (fun C b => PySem.W.kitOne K (.ref D) (.ref C) = some b) Cs bs
section
variable {K : PySem.W.Frag} {a D : Addr} {H : Hp} {σ : L2.St}
theorem args_I (hv : σ[0]? = some (some (.ref a))) (ha : IsExo H a D) (Z : ErrI K D) : ∀ {Cs : List Addr} {bs : List Bool} (Q : List V → Hp → Prop), KitRow K D Cs bs → Q (bs.map V.bl) H → argsI K Cs σ H Q
  | _, _, Q, .nil, q => q
  | _, _, Q, .cons e r, q => by
    obtain ⟨d, h1, h2⟩ := ha
    exact ⟨_, hv, a, D, d, _, _, _, rfl, .own _, h1, h2, Z, e, args_I hv ⟨d, h1, h2⟩ Z (fun xs H2 => Q (_ :: xs) H2) r q⟩
theorem lst_I (hv : σ[0]? = some (some (.ref a))) (ha : IsExo H a D) (Z : ErrI K D) {Cs : List Addr} {bs : List Bool} {Q : VK} (r : KitRow K D Cs bs) (few : bs.length ≤ 1000)
    (k : ∀ p H', L2.Same H H' → H' p = some (.lst (bs.map V.bl)) → Q (.ref p) H') : tLst (argsI K Cs) σ H Q := by
  refine args_I hv ha Z _ r ⟨?_, fun p hp => k p _ (Same.new hp) upd_same⟩
  rw [List.length_map]
  exact Nat.le_of_lt (small1000 few)
theorem row_I (hv : σ[0]? = some (some (.ref a))) (ha : IsExo H a D) (Z : ErrI K D) {i : Nat} {l : Addr} {Cs : List Addr} {bs cs : List Bool} {E : Ends} (hi : σ[i]? = some (some (.ref l))) (hl : H l = some (.lst (bs.map V.bl))) (r : KitRow K D Cs cs) (few : bs.length + cs.length ≤ 1000)
    (k : ∀ p H', L2.Same H H' → H' p = some (.lst ((bs ++ cs).map V.bl)) → E.nx (σ.set i (some (.ref p))) H') : tAsg (tOp rCat (tVar i) (tLst (argsI K Cs))) (gName i) E σ H := by
  refine ⟨_, hi, lst_I hv ha Z r (by omega) fun p H1 s1 h1 => ?_⟩
  refine ⟨l, p, _, _, rfl, rfl, s1 _ _ hl, h1, ?_, fun q hq => ?_⟩
  · rw [List.length_map, List.length_map]
    exact Nat.le_of_lt (small1000 few)
  · refine k q _ (s1.trans (Same.new hq)) ?_
    rw [List.map_append]
    exact upd_same
end
theorem fst_I {K : PySem.W.Frag} {a D : Addr} {H : Hp} {σ : L2.St} (hv : σ[0]? = some (some (.ref a))) (ha : IsExo H a D) (Z : ErrI K D) {i : Nat} {Cs : List Addr} {bs : List Bool} {E : Ends} (r : KitRow K D Cs bs) (few : bs.length ≤ 1000)
    (k : ∀ p H', L2.Same H H' → H' p = some (.lst (bs.map V.bl)) → E.nx (σ.set i (some (.ref p))) H') : tAsg (tLst (argsI K Cs)) (gName i) E σ H := lst_I hv ha Z r few fun p H1 s1 h1 => k p H1 s1 h1
/-- the same over the def's own three slots, the slots written out -/
theorem fst_J {K : PySem.W.Frag} {a D : Addr} {H : Hp} {y z : Option V} (ha : IsExo H a D) (Z : ErrI K D) {Cs : List Addr} {bs : List Bool} {E : Ends} (r : KitRow K D Cs bs) (few : bs.length ≤ 1000)
    (k : ∀ p H', L2.Same H H' → H' p = some (.lst (bs.map V.bl)) → E.nx [some (.ref a), some (.ref p), z] H') : tAsg (tLst (argsI K Cs)) (gName 1) E [some (.ref a), y, z] H := fst_I rfl ha Z r few fun p H1 s1 h1 => k p H1 s1 h1
theorem row_J {K : PySem.W.Frag} {a D : Addr} {H : Hp} {z : Option V} (ha : IsExo H a D) (Z : ErrI K D) {l : Addr} {Cs : List Addr} {bs cs : List Bool} {E : Ends} (hl : H l = some (.lst (bs.map V.bl))) (r : KitRow K D Cs cs) (few : bs.length + cs.length ≤ 1000)
    (k : ∀ p H', L2.Same H H' → H' p = some (.lst ((bs ++ cs).map V.bl)) → E.nx [some (.ref a), some (.ref p), z] H') : tAsg (tOp rCat (tVar 1) (tLst (argsI K Cs))) (gName 1) E [some (.ref a), some (.ref l), z] H := row_I rfl ha Z rfl hl r few fun p H1 s1 h1 => k p H1 s1 h1
/-- the list of the places of the classes that an error is of -/
def codeOf (bs : List Bool) (n : Nat) : List V := ((List.range n).filter fun j => bs.getD j false).map fun (j : Nat) => V.int j
def spCode (K : PySem.W.Frag) (C : Nat → Addr) : Sp := fun vs H Q _ => ∃ (a D : Addr) (f : Nat → Bool), vs = [.ref a] ∧ IsExo H a D ∧ ErrI K D ∧ (∀ j, j < 28 → PySem.W.kitOne K (.ref D) (.ref (C j)) = some (f j)) ∧
  ∀ l H', L2.Same H H' → H' l = some (.lst (codeOf ((List.range 28).map f) 28)) → Q (.ref l) H'
def spIsErr (K : PySem.W.Frag) (T : Addr) : Sp := fun vs H Q _ => ∃ (a D : Addr), vs = [.ref a] ∧ IsExo H a D ∧ ErrI K D ∧ PySem.W.kitOne K (.ref D) (.ref T) = some true ∧ PySem.W.kitOne K (.ref D) (.type "ValueError") = some true ∧ Q (.bl true) H
structure Blt2 (mg : Str → Option Value) : Prop where
  isi : mg "isinstance" = none
  ve : mg "ValueError" = none
  repr : mg "repr" = none
  all : mg "all" = none
  list : mg "list" = none
  dict : mg "dict" = none
  tuple : mg "tuple" = none
theorem boot_isi : bootBuiltins "isinstance" = some (.builtin "isinstance") := by decide +kernel
theorem boot_ve : bootBuiltins "ValueError" = some (.type "ValueError") := by decide +kernel
def names28 : List Str := errNames ++ [("NothingToUndo" : Str), "NothingToRedo"]
section
variable {P : Program} {w : World} {K : PySem.W.Frag} {mg : Str → Option Value} {base : Heap} {C : Nat → Addr} {T : Addr}
theorem scIsErr : FnScope ["_law_error"] ["_law_error"] (defScope sIsErr) := ⟨rfl, rfl, rfl, by decide +kernel, rfl, by decide +kernel, by decide +kernel⟩
theorem ok_iserr {f : Addr} {fd : FuncData} (F : Fun K "_law_is_error" "_law_is_error" sIsErr f fd) (B2 : Blt2 mg) (mT : mg "TwiceError" = some (.ref T)) : FnOk P w K mg base CX0 1 f fd ["_law_error"] (spIsErr K T) := by
  refine F.ok scIsErr (fun vs H Q E h => ?_) (fun cdv A outer s H vs Q E hr h => ?_)
  · obtain ⟨a, D, rfl, _⟩ := h
    rfl
  · obtain ⟨a, D, rfl, ⟨d, h1, h2⟩, Z, k1, k2, q⟩ := h
    refine ⟨_, pss_one (ps_ret (pe_and (pe_callB call_isE (by rfl) B2.isi boot_isi (pa_cons (pv 0) (pa_cons (pe_glob (v := .ref T) rfl mT rfl) pa_nil)))
      (pe_one (pe_callB call_isE (by rfl) B2.isi boot_isi (pa_cons (pv 0) (pa_cons (pe_bltn (v := .ty "ValueError") (by rfl) B2.ve boot_ve rfl) pa_nil)))))), ?_⟩
    refine ⟨_, rfl, a, D, d, _, _, _, rfl, .own _, h1, h2, Z, k1, _, rfl, ?_⟩
    refine iteT ?_
    exact ⟨_, rfl, a, D, d, _, _, _, rfl, .ty _, h1, h2, Z, k2, q⟩
theorem codeOf_step (bs : List Bool) (i : Nat) : codeOf bs (i + 1) = codeOf bs i ++ (if bs.getD i false = true then [V.int i] else []) := by
  unfold codeOf
  rw [List.range_succ, List.filter_append, List.map_append]
  congr 1
  by_cases h : bs.getD i false = true
  · rw [if_pos h, List.filter_cons, if_pos h]
    rfl
  · rw [if_neg h, List.filter_cons, if_neg h]
    rfl
theorem scCode : FnScope ["_law_error", "_law_found", "_law_at"] ["_law_error"] (defScope sCode) := ⟨rfl, rfl, rfl, by decide +kernel, rfl, by decide +kernel, by decide +kernel⟩
theorem ok_code {f : Addr} {fd : FuncData} (F : Fun K "_law_code" "_law_code" sCode f fd) (B : Blt mg) (B2 : Blt2 mg) (M : ∀ (i : Nat) (x : Str), names28[i]? = some x → mg x = some (.ref (C i))) : FnOk P w K mg base CX0 1 f fd ["_law_error"] (spCode K C) := by
  refine F.ok scCode (fun vs H Q E h => ?_) (fun cdv A outer s H vs Q E hr h => ?_)
  · obtain ⟨a, D, f, rfl, _⟩ := h
    rfl
  · obtain ⟨a, D, f, rfl, hx, Z, kit, k⟩ := h
    have nd := scCode.nd
    refine ⟨_, (pss_cons (ps_set (i := 1) nd rfl (Or.inr rfl) (pe_lst (pa_cons (pe_callB call_isE (by rfl) B2.isi boot_isi (pa_cons (pv 0) (pa_cons (pe_glob (v := .ref (C 0)) rfl (M 0 _ rfl) rfl) pa_nil))) (pa_cons (pe_callB call_isE (by rfl) B2.isi boot_isi (pa_cons (pv 0) (pa_cons (pe_glob (v := .ref (C 1)) rfl (M 1 _ rfl) rfl) pa_nil))) (pa_cons (pe_callB call_isE (by rfl) B2.isi boot_isi (pa_cons (pv 0) (pa_cons (pe_glob (v := .ref (C 2)) rfl (M 2 _ rfl) rfl) pa_nil))) pa_nil)))))
      (pss_cons (ps_set (i := 1) nd rfl (Or.inr rfl) (pe_op op_cat (pv 1) (pe_lst (pa_cons (pe_callB call_isE (by rfl) B2.isi boot_isi (pa_cons (pv 0) (pa_cons (pe_glob (v := .ref (C 3)) rfl (M 3 _ rfl) rfl) pa_nil))) (pa_cons (pe_callB call_isE (by rfl) B2.isi boot_isi (pa_cons (pv 0) (pa_cons (pe_glob (v := .ref (C 4)) rfl (M 4 _ rfl) rfl) pa_nil))) pa_nil)))))
      (pss_cons (ps_set (i := 1) nd rfl (Or.inr rfl) (pe_op op_cat (pv 1) (pe_lst (pa_cons (pe_callB call_isE (by rfl) B2.isi boot_isi (pa_cons (pv 0) (pa_cons (pe_glob (v := .ref (C 5)) rfl (M 5 _ rfl) rfl) pa_nil))) (pa_cons (pe_callB call_isE (by rfl) B2.isi boot_isi (pa_cons (pv 0) (pa_cons (pe_glob (v := .ref (C 6)) rfl (M 6 _ rfl) rfl) pa_nil))) pa_nil)))))
      (pss_cons (ps_set (i := 1) nd rfl (Or.inr rfl) (pe_op op_cat (pv 1) (pe_lst (pa_cons (pe_callB call_isE (by rfl) B2.isi boot_isi (pa_cons (pv 0) (pa_cons (pe_glob (v := .ref (C 7)) rfl (M 7 _ rfl) rfl) pa_nil))) (pa_cons (pe_callB call_isE (by rfl) B2.isi boot_isi (pa_cons (pv 0) (pa_cons (pe_glob (v := .ref (C 8)) rfl (M 8 _ rfl) rfl) pa_nil))) pa_nil)))))
      (pss_cons (ps_set (i := 1) nd rfl (Or.inr rfl) (pe_op op_cat (pv 1) (pe_lst (pa_cons (pe_callB call_isE (by rfl) B2.isi boot_isi (pa_cons (pv 0) (pa_cons (pe_glob (v := .ref (C 9)) rfl (M 9 _ rfl) rfl) pa_nil))) (pa_cons (pe_callB call_isE (by rfl) B2.isi boot_isi (pa_cons (pv 0) (pa_cons (pe_glob (v := .ref (C 10)) rfl (M 10 _ rfl) rfl) pa_nil))) pa_nil)))))
      (pss_cons (ps_set (i := 1) nd rfl (Or.inr rfl) (pe_op op_cat (pv 1) (pe_lst (pa_cons (pe_callB call_isE (by rfl) B2.isi boot_isi (pa_cons (pv 0) (pa_cons (pe_glob (v := .ref (C 11)) rfl (M 11 _ rfl) rfl) pa_nil))) (pa_cons (pe_callB call_isE (by rfl) B2.isi boot_isi (pa_cons (pv 0) (pa_cons (pe_glob (v := .ref (C 12)) rfl (M 12 _ rfl) rfl) pa_nil))) (pa_cons (pe_callB call_isE (by rfl) B2.isi boot_isi (pa_cons (pv 0) (pa_cons (pe_glob (v := .ref (C 13)) rfl (M 13 _ rfl) rfl) pa_nil))) pa_nil))))))
      (pss_cons (ps_set (i := 1) nd rfl (Or.inr rfl) (pe_op op_cat (pv 1) (pe_lst (pa_cons (pe_callB call_isE (by rfl) B2.isi boot_isi (pa_cons (pv 0) (pa_cons (pe_glob (v := .ref (C 14)) rfl (M 14 _ rfl) rfl) pa_nil))) (pa_cons (pe_callB call_isE (by rfl) B2.isi boot_isi (pa_cons (pv 0) (pa_cons (pe_glob (v := .ref (C 15)) rfl (M 15 _ rfl) rfl) pa_nil))) pa_nil)))))
      (pss_cons (ps_set (i := 1) nd rfl (Or.inr rfl) (pe_op op_cat (pv 1) (pe_lst (pa_cons (pe_callB call_isE (by rfl) B2.isi boot_isi (pa_cons (pv 0) (pa_cons (pe_glob (v := .ref (C 16)) rfl (M 16 _ rfl) rfl) pa_nil))) (pa_cons (pe_callB call_isE (by rfl) B2.isi boot_isi (pa_cons (pv 0) (pa_cons (pe_glob (v := .ref (C 17)) rfl (M 17 _ rfl) rfl) pa_nil))) pa_nil)))))
      (pss_cons (ps_set (i := 1) nd rfl (Or.inr rfl) (pe_op op_cat (pv 1) (pe_lst (pa_cons (pe_callB call_isE (by rfl) B2.isi boot_isi (pa_cons (pv 0) (pa_cons (pe_glob (v := .ref (C 18)) rfl (M 18 _ rfl) rfl) pa_nil))) (pa_cons (pe_callB call_isE (by rfl) B2.isi boot_isi (pa_cons (pv 0) (pa_cons (pe_glob (v := .ref (C 19)) rfl (M 19 _ rfl) rfl) pa_nil))) pa_nil)))))
      (pss_cons (ps_set (i := 1) nd rfl (Or.inr rfl) (pe_op op_cat (pv 1) (pe_lst (pa_cons (pe_callB call_isE (by rfl) B2.isi boot_isi (pa_cons (pv 0) (pa_cons (pe_glob (v := .ref (C 20)) rfl (M 20 _ rfl) rfl) pa_nil))) (pa_cons (pe_callB call_isE (by rfl) B2.isi boot_isi (pa_cons (pv 0) (pa_cons (pe_glob (v := .ref (C 21)) rfl (M 21 _ rfl) rfl) pa_nil))) pa_nil)))))
      (pss_cons (ps_set (i := 1) nd rfl (Or.inr rfl) (pe_op op_cat (pv 1) (pe_lst (pa_cons (pe_callB call_isE (by rfl) B2.isi boot_isi (pa_cons (pv 0) (pa_cons (pe_glob (v := .ref (C 22)) rfl (M 22 _ rfl) rfl) pa_nil))) (pa_cons (pe_callB call_isE (by rfl) B2.isi boot_isi (pa_cons (pv 0) (pa_cons (pe_glob (v := .ref (C 23)) rfl (M 23 _ rfl) rfl) pa_nil))) (pa_cons (pe_callB call_isE (by rfl) B2.isi boot_isi (pa_cons (pv 0) (pa_cons (pe_glob (v := .ref (C 24)) rfl (M 24 _ rfl) rfl) pa_nil))) pa_nil))))))
      (pss_cons (ps_set (i := 1) nd rfl (Or.inr rfl) (pe_op op_cat (pv 1) (pe_lst (pa_cons (pe_callB call_isE (by rfl) B2.isi boot_isi (pa_cons (pv 0) (pa_cons (pe_glob (v := .ref (C 25)) rfl (M 25 _ rfl) rfl) pa_nil))) (pa_cons (pe_callB call_isE (by rfl) B2.isi boot_isi (pa_cons (pv 0) (pa_cons (pe_glob (v := .ref (C 26)) rfl (M 26 _ rfl) rfl) pa_nil))) pa_nil)))))
      (pss_cons (ps_set (i := 1) nd rfl (Or.inr rfl) (pe_op op_cat (pv 1) (pe_lst (pa_cons (pe_callB call_isE (by rfl) B2.isi boot_isi (pa_cons (pv 0) (pa_cons (pe_glob (v := .ref (C 27)) rfl (M 27 _ rfl) rfl) pa_nil))) pa_nil))))
      (pss_one (ps_ret (pe_lc (own := [("_law_at", 2)]) (g := gName 2) (tt := tTest (tOp (rIxL K) (tVar 1) (tVar 2))) (by rfl) nd (pi_range1 (by rfl) B.range (pa_cons (pe_callB call_len_seq (by rfl) B.len PySem.boot_len (pa_cons (pv 1) pa_nil)) pa_nil)) (blkOk_by (own := [("_law_at", 2)]) (N := ["_law_error", "_law_found", "_law_at"]) (sc := defScope sCode) (by decide +kernel))
        (fun _ _ _ _ _ => pg_name (i := 2) nd rfl (Or.inl rfl)) (fun _ _ _ _ _ => pts_one (pt_val (pe_ix ix_list (pv 1) (pv 2) (fun _ _ => rfl)))) (fun _ _ _ _ _ => pv 2))))))))))))))))), ?_⟩
    refine fst_J (Cs := [C 0, C 1, C 2]) (bs := [f 0, f 1, f 2]) hx Z (.cons (kit 0 (by decide)) (.cons (kit 1 (by decide)) (.cons (kit 2 (by decide)) .nil))) (by simp) fun p0 H0 s0 h0 => ?_
    refine row_J (Cs := [C 3, C 4]) (cs := [f 3, f 4]) (hx.mono s0) Z h0 (.cons (kit 3 (by decide)) (.cons (kit 4 (by decide)) .nil)) (by simp) fun p1 H1 s1 h1 => ?_
    refine row_J (Cs := [C 5, C 6]) (cs := [f 5, f 6]) (hx.mono (s0.trans s1)) Z h1 (.cons (kit 5 (by decide)) (.cons (kit 6 (by decide)) .nil)) (by simp) fun p2 H2 s2 h2 => ?_
    refine row_J (Cs := [C 7, C 8]) (cs := [f 7, f 8]) (hx.mono ((s0.trans s1).trans s2)) Z h2 (.cons (kit 7 (by decide)) (.cons (kit 8 (by decide)) .nil)) (by simp) fun p3 H3 s3 h3 => ?_
    refine row_J (Cs := [C 9, C 10]) (cs := [f 9, f 10]) (hx.mono (((s0.trans s1).trans s2).trans s3)) Z h3 (.cons (kit 9 (by decide)) (.cons (kit 10 (by decide)) .nil)) (by simp) fun p4 H4 s4 h4 => ?_
    refine row_J (Cs := [C 11, C 12, C 13]) (cs := [f 11, f 12, f 13]) (hx.mono ((((s0.trans s1).trans s2).trans s3).trans s4)) Z h4 (.cons (kit 11 (by decide)) (.cons (kit 12 (by decide)) (.cons (kit 13 (by decide)) .nil))) (by simp) fun p5 H5 s5 h5 => ?_
    refine row_J (Cs := [C 14, C 15]) (cs := [f 14, f 15]) (hx.mono (((((s0.trans s1).trans s2).trans s3).trans s4).trans s5)) Z h5 (.cons (kit 14 (by decide)) (.cons (kit 15 (by decide)) .nil)) (by simp) fun p6 H6 s6 h6 => ?_
    refine row_J (Cs := [C 16, C 17]) (cs := [f 16, f 17]) (hx.mono ((((((s0.trans s1).trans s2).trans s3).trans s4).trans s5).trans s6)) Z h6 (.cons (kit 16 (by decide)) (.cons (kit 17 (by decide)) .nil)) (by simp) fun p7 H7 s7 h7 => ?_
    refine row_J (Cs := [C 18, C 19]) (cs := [f 18, f 19]) (hx.mono (((((((s0.trans s1).trans s2).trans s3).trans s4).trans s5).trans s6).trans s7)) Z h7 (.cons (kit 18 (by decide)) (.cons (kit 19 (by decide)) .nil)) (by simp) fun p8 H8 s8 h8 => ?_
    refine row_J (Cs := [C 20, C 21]) (cs := [f 20, f 21]) (hx.mono ((((((((s0.trans s1).trans s2).trans s3).trans s4).trans s5).trans s6).trans s7).trans s8)) Z h8 (.cons (kit 20 (by decide)) (.cons (kit 21 (by decide)) .nil)) (by simp) fun p9 H9 s9 h9 => ?_
    refine row_J (Cs := [C 22, C 23, C 24]) (cs := [f 22, f 23, f 24]) (hx.mono (((((((((s0.trans s1).trans s2).trans s3).trans s4).trans s5).trans s6).trans s7).trans s8).trans s9)) Z h9 (.cons (kit 22 (by decide)) (.cons (kit 23 (by decide)) (.cons (kit 24 (by decide)) .nil))) (by simp) fun p10 H10 s10 h10 => ?_
    refine row_J (Cs := [C 25, C 26]) (cs := [f 25, f 26]) (hx.mono ((((((((((s0.trans s1).trans s2).trans s3).trans s4).trans s5).trans s6).trans s7).trans s8).trans s9).trans s10)) Z h10 (.cons (kit 25 (by decide)) (.cons (kit 26 (by decide)) .nil)) (by simp) fun p11 H11 s11 h11 => ?_
    refine row_J (Cs := [C 27]) (cs := [f 27]) (hx.mono (((((((((((s0.trans s1).trans s2).trans s3).trans s4).trans s5).trans s6).trans s7).trans s8).trans s9).trans s10).trans s11)) Z h11 (.cons (kit 27 (by decide)) .nil) (by simp) fun p12 H12 s12 h12 => ?_
    have hl : H12 p12 = some (.lst ((((List.range 28).map f)).map V.bl)) := h12
    have sm : L2.Same H H12 := ((((((((((((s0.trans s1).trans s2).trans s3).trans s4).trans s5).trans s6).trans s7).trans s8).trans s9).trans s10).trans s11).trans s12)
    generalize hbs : (List.range 28).map f = bs at hl k
    have bl : bs.length = 28 := by
      rw [← hbs]
      simp
    refine ⟨_, rfl, _, _, rfl, .inl (SqL.of hl), _, rfl, ?_, ?_, fun R hR => ?_⟩
    · omega
    · rw [List.length_map, bl]
      decide
    refine lc_range (lo := 0) (n := (((bs.map V.bl).length : Nat) : Int).toNat) (fun i H' => L2.Same H12 H' ∧ i ≤ 28 ∧ H' R = some (.lst (codeOf bs i))) ?_ ?_ ?_
    · exact ⟨Same.new hR, by omega, upd_same⟩
    · rintro i H2 hi ⟨s2, i28, h2⟩
      have i27 : i < 28 := by
        rw [List.length_map, bl] at hi
        exact hi
      have hb : bs[i]? = some (bs.getD i false) := by
        have hlt : i < bs.length := by omega
        simp [List.getD, hlt]
      have hl2 := s2 _ _ hl
      refine ⟨rfl, _, rfl, _, rfl, _, _, _, _, rfl, rfl, SqL.of hl2, ?_, bs.getD i false, rfl, ?_⟩
      · rw [Int.zero_add]
        refine atI_nat ?_
        rw [List.getElem?_map, hb]
        rfl
      · have st := codeOf_step bs i
        by_cases hc : bs.getD i false = true
        · rw [if_pos hc] at st
          rw [hc]
          dsimp only
          rw [if_pos rfl]
          refine ⟨_, rfl, _, h2, ?_, ?_, by omega, ?_⟩
          · unfold codeOf
            rw [List.length_map]
            exact small1000 (Nat.le_trans (List.length_filter_le _ _) (by rw [List.length_range]; omega))
          · intro b o e
            rw [upd_ne (ne_of_none e hR)]
            exact s2 b o e
          · rw [st, Int.zero_add]
            exact upd_same
        · rw [if_neg hc, List.append_nil] at st
          rw [Bool.not_eq_true] at hc
          rw [hc]
          dsimp only
          rw [if_neg Bool.false_ne_true]
          exact ⟨s2, by omega, by rw [st]; exact h2⟩
    · rintro H2 ⟨s2, i28, h2⟩
      rw [List.length_map, bl] at h2
      exact k R H2 (sm.trans s2) h2
end
end KT

set_option Elab.async false
set_option linter.all false
set_option maxRecDepth 100000
set_option maxHeartbeats 4000000
namespace KT
open PySem PySem.Spec PyProof.Rows L2
/-! ### the errors' __init__ -/
def eArgs (q1 q2 q3 : Pos) : Arguments := { posonlyargs := [], args := [{ arg := "self", annotation := none, pos := q1 }, { arg := "value", annotation := none, pos := q2 }], vararg := none, kwonlyargs := [], kw_defaults := [], kwarg := none, defaults := [.Constant .none 0 q3] }
def eBody (p1 p2 p3 p4 : Pos) : List Stmt := [.Assign [.Attribute (.Name "self" p1) "value" p2] (.Name "value" p3) p4]
def eSc : Scope := { kind := .function, names := [("self", .local), ("value", .local)], isGenerator := false, isCoroutine := false, more := [] }
abbrev sTwice : Stmt := inClass (top 1) 0
/-- the promise of TwiceError's __init__ -/
def spTI (K : PySem.W.Frag) : Sp := fun vs H Q _ => ∃ (a C : Addr), vs = [.ref a] ∧ OexC K C ∧ H a = some (exo a C none) ∧ Q .non H
section
variable {P : Program} {w : World} {K : PySem.W.Frag} {mg : Str → Option Value} {base : Heap} {qual : Str} {f : Addr} {fd : FuncData} {q1 q2 q3 p1 p2 p3 p4 p5 : Pos}
theorem scE : FnScope ["self", "value"] ["self", "value"] eSc := ⟨rfl, rfl, rfl, by decide +kernel, rfl, by decide +kernel, by decide +kernel⟩
theorem ok_einit (F : FunD K "__init__" qual (eArgs q1 q2 q3) (eBody p1 p2 p3 p4) eSc [.non] [] f fd) : FnOk P w K mg base CX0 1 f fd ["self", "value"] (spEI K) := by
  refine F.ok scE (fun vs H Q E h => ?_) (fun cdv A outer s H vs Q E hr h => ?_)
  · obtain ⟨a, C, v, rfl, _⟩ := h
    rfl
  · obtain ⟨a, C, v, rfl, T, no, ha, k⟩ := h
    refine ⟨_, pss_one (ps_ost (pv 0) (pv 1)), ?_⟩
    exact ⟨_, rfl, _, rfl, a, C, rfl, T, no, .inl ⟨ha, k⟩⟩
theorem einit_binds (F : FunD K "__init__" qual (eArgs q1 q2 q3) (eBody p1 p2 p3 p4) eSc [.non] [] f fd) :
    (∀ (s : Shared) (self u : Value), K.In s.heap → BindsTo s fd ⟨[self, u], []⟩ [("self", self), ("value", u)]) ∧
    (∀ (s : Shared) (self : Value), K.In s.heap → BindsTo s fd ⟨[self], []⟩ [("self", self), ("value", .none)]) ∧
    (∀ (s : Shared) (self u : Value), K.In s.heap → BindsTo s fd ⟨[self], [("value", u)]⟩ [("self", self), ("value", u)]) := by
  obtain ⟨ds, r1, b1⟩ := F.binds1 (ps := ["self", "value"]) 2 1 (by simp) rfl fun T kV doc pm an cdv ct us its hu hi => match us, hu, its, hi with | [_, _], _, [_], _ => ⟨_, rfl, rfl⟩
  obtain ⟨es, r2, b2⟩ := F.binds1 (ps := ["self", "value"]) 1 0 (by simp) rfl fun T kV doc pm an cdv ct us its hu hi => match us, hu, its, hi with | [_], _, [_], _ => ⟨_, rfl, rfl⟩
  obtain ⟨its, b3⟩ := F.kbindsD (ps := ["self", "value"]) 1 ["value"] (fun us its ws => us ++ ws) (by simp) (fun r _ r' => r.append r') fun T kV doc pm an cdv ct us its ws hu hi hw => match us, hu, its, hi, ws, hw with | [_], _, [_], _, [_], _ => ⟨_, rfl, rfl⟩
  refine ⟨fun s self u X => ?_, fun s self X => ?_, fun s self u X => ?_⟩
  · cases r1
    exact b1 s [self, u] X rfl
  · cases r2 with
    | cons e t =>
      cases t
      cases e
      exact b2 s [self] X rfl
  · exact b3.to s [self] [u] X rfl rfl
theorem scTI : FnScope ["self"] ["self"] (defScope sTwice) := ⟨rfl, rfl, rfl, by decide +kernel, rfl, by decide +kernel, by decide +kernel⟩
theorem ok_tinit {f : Addr} {fd : FuncData} (F : Fun K "__init__" "TwiceError.__init__" sTwice f fd) (B2 : Blt2 mg) (vV : PySem.W.findCls K (.type "ValueError") (.type "type") "__init__" = some (.val (.builtin "ValueError.__init__"))) : FnOk P w K mg base CX0 1 f fd ["self"] (spTI K) := by
  refine F.ok scTI (fun vs H Q E h => ?_) (fun cdv A outer s H vs Q E hr h => ?_)
  · obtain ⟨a, C, rfl, _⟩ := h
    rfl
  · obtain ⟨a, C, rfl, T, ha, k⟩ := h
    refine ⟨_, pss_one (ps_expr (pe_veinit (by rfl) B2.ve vV (pa_cons (pv 0) pa_nil))), ?_⟩
    exact ⟨_, rfl, a, C, [], rfl, (by decide), T, ha, k⟩
end
/-- what callers know of TwiceError and of a class without an __init__ of its own -/
structure TwiC (P : Program) (w : World) (K : PySem.W.Frag) (mg : Str → Option Value) (base : Heap) (x : Str) (C : Addr) : Prop where
  T : OexC K C
  m : mg x = some (.ref C)
  I : ∃ (fI : Addr) (fd : FuncData), PySem.W.findIn K (.ref C) "__init__" = some (some (.ref fI)) ∧ PySem.W.typeIn K (.ref fI) = some (.type "function") ∧ FnOk P w K mg base CX0 1 fI fd ["self"] (spTI K) ∧
    (∀ (s : Shared) (self : Value), K.In s.heap → BindsTo s fd ⟨[self], []⟩ [("self", self)])
def tT0 (C : Addr) : TE := fun _ H Q => ∀ a, H a = none → Q (.ref a) (upd H a (exo a C none))
theorem pe_t0 {X : Cx} {C : Addr} {x : Str} {p pos : Pos} {k : Nat} (Z : TwiC X.prog X.w X.K X.mg X.base x C) (hr : Room k X.A) (hg : Gl X x) (h2 : 2 ≤ k := by decide) (hdb : (x == ("__debug__" : Str)) = false := by decide) : PE X (.Call (.Name x p) [] [] pos) (tT0 C) := by
  obtain ⟨fI, fd, iC, tI, F, b0⟩ := Z.I
  refine ⟨fun pins s σ H Q I q1 => ?_⟩
  refine wpAny_Call_Name_kw (ld_glob I hg Z.m ?_ hdb)
  refine PySem.W.callWith_K0 I.kIn Z.T.kC ?_
  refine run_exo (us := []) (kw := []) (zs := []) (vz := []) Z.T iC tI F (hr.mono h2) I (by show 0 ≤ sizeLine; decide) (fun s self K => b0 s self K) .nil fun a ha => ?_
  exact ⟨a, C, rfl, Z.T, upd_same, rfl, q1 a ha⟩
/-! ### _law_purses -/
def spPurses (K : PySem.W.Frag) : Sp := fun vs H Q _ => ∃ (a : Addr) (ns : List Int) (m : Int), vs = [.ref a, .int m] ∧ SqL K H a (ns.map V.int) ∧ ns.length ≤ 63 ∧ 1 ≤ m ∧ m ≤ 60 ∧
  ∀ (l : Addr) (ps : List Addr) (H' : Hp), L2.Same H H' → H' l = some (.lst (ps.map V.ref)) → (∀ p ∈ ps, PurseAt H' p 0 ∧ H p = none ∧ p ≠ l) → ps.Nodup → ps ≠ [] → (ps.length : Int) ≤ m → Q (.ref l) H'
section
variable {P : Program} {w : World} {K : PySem.W.Frag} {mg : Str → Option Value} {base : Heap}
theorem PurseAt.mono {H H' : Hp} {p : Addr} {B : Int} (s : L2.Same H H') (h : PurseAt H p B) : PurseAt H' p B := by
  obtain ⟨a, b, c, d, q, r⟩ := h
  exact ⟨a, b, c, d, s _ _ q, r⟩
theorem scPurses : FnScope ["_law_script", "_law_few", "_law_at"] ["_law_script", "_law_few"] (defScope sPurses) := ⟨rfl, rfl, rfl, by decide +kernel, rfl, by decide +kernel, by decide +kernel⟩
theorem ok_purses {f : Addr} {fd : FuncData} (F : Fun K "_law_purses" "_law_purses" sPurses f fd) (B : Blt mg) (Pu : Cee P w K mg base 1 "_law_purse" ["_law_script", "_law_at"] (spPurse K)) : FnOk P w K mg base CX0 2 f fd ["_law_script", "_law_few"] (spPurses K) := by
  refine F.ok scPurses (fun vs H Q E h => ?_) (fun cdv A outer s H vs Q E hr h => ?_)
  · obtain ⟨a, ns, m, rfl, _⟩ := h
    rfl
  · obtain ⟨a, ns, m, rfl, hS, few, m1, m2, k⟩ := h
    have nd := scPurses.nd
    refine ⟨_, pss_one (ps_ret (pe_lc (own := [("_law_at", 2)]) (g := gName 2) (tt := tYes) (te := tCall (spPurse K) [] E0 (tCons (tVar 0) (tCons (tVar 2) tNil))) rfl nd
      (pi_range1 (by rfl) B.range (pa_cons (pe_callB (call_max2 rfl) (by rfl) B.max boot_max (pa_cons pe_int (pa_cons (pe_callB (call_min2 rfl) (by rfl) B.min (by decide +kernel) (pa_cons (pv 1) (pa_cons (pe_callB call_len_seq (by rfl) B.len PySem.boot_len (pa_cons (pv 0) pa_nil)) pa_nil))) pa_nil))) pa_nil))
      (blkOk_by (own := [("_law_at", 2)]) (N := ["_law_script", "_law_few", "_law_at"]) (sc := defScope sPurses) (by decide +kernel))
      (fun _ _ _ _ _ => pg_name (i := 2) nd rfl (Or.inl rfl)) (fun _ _ _ _ _ => pts_nil) (fun _ _ _ _ _ => pe_c Pu hr rfl (pa_cons (pv 0) (pa_cons (pv 2) pa_nil))))), ?_⟩
    refine ⟨_, rfl, _, rfl, _, _, rfl, .inl hS, _, _, rfl, _, _, rfl, ?_⟩
    generalize hn : (if (if (((ns.map V.int).length : Nat) : Int) < m then (((ns.map V.int).length : Nat) : Int) else m) > 1 then (if (((ns.map V.int).length : Nat) : Int) < m then (((ns.map V.int).length : Nat) : Int) else m) else 1) = n
    have n1 : 1 ≤ n ∧ n ≤ m := by
      subst hn
      split <;> split <;> omega
    refine ⟨_, rfl, by omega, by omega, fun R hR => ?_⟩
    refine lc_range (lo := 0) (n := n.toNat) (fun i H' => L2.Same H H' ∧ ∃ ps : List Addr, ps.length = i ∧ H' R = some (.lst (ps.map V.ref)) ∧ (∀ p ∈ ps, PurseAt H' p 0 ∧ H p = none ∧ p ≠ R) ∧ ps.Nodup) ?_ ?_ ?_
    · exact ⟨Same.new hR, [], rfl, upd_same, fun p hp => by (cases hp), List.nodup_nil⟩
    · rintro i H1 hi ⟨s1, ps, pl, h1, hp, pnd⟩
      refine ⟨rfl, yes_if ?_⟩
      refine ⟨_, rfl, _, rfl, a, ns, i, ?_, s1.seq hS, by omega, fun p H2 s2 hp0 P2 => ?_⟩
      · rw [Int.zero_add]
        rfl
      · have hH : H p = none := s1.free hp0
        have pR : p ≠ R := fun e => by
          rw [e, h1] at hp0
          cases hp0
        have hR2 : H2 R = some (.lst (ps.map V.ref)) := s2 _ _ h1
        refine ⟨_, hR2, ?_, ?_, ps ++ [p], by simp [pl], ?_, ?_, ?_⟩
        · rw [List.length_map, pl]
          exact small1000 (by omega)
        · intro b o e
          rw [upd_ne (ne_of_none e hR)]
          exact s2 _ _ (s1 _ _ e)
        · rw [List.map_append]
          exact upd_same
        · intro q hq
          have keep : ∀ {q : Addr}, PurseAt H2 q 0 → q ≠ R → PurseAt (upd H2 R (.lst (ps.map V.ref ++ [.ref p]))) q 0 := by
            rintro q ⟨a, b, c, d, e, r⟩ nq
            exact ⟨a, b, c, d, by rw [upd_ne nq]; exact e, r⟩
          rcases List.mem_append.mp hq with h | h
          · obtain ⟨x1, x2, x3⟩ := hp q h
            exact ⟨keep (x1.mono s2) x3, x2, x3⟩
          · have e := List.mem_singleton.mp h
            subst e
            exact ⟨keep P2 pR, hH, pR⟩
        · refine List.nodup_append.mpr ⟨pnd, by simp, fun x hx y hy e => ?_⟩
          have e2 := List.mem_singleton.mp hy
          subst e2
          subst e
          obtain ⟨⟨a1, b1, c1, d1, q, _⟩, _⟩ := hp x hx
          rw [q] at hp0
          cases hp0
    · rintro H1 ⟨s1, ps, pl, h1, hp, pnd⟩
      refine k R ps H1 s1 h1 hp pnd (fun e => ?_) (by omega)
      rw [e] at pl
      simp at pl
      omega
end
end KT

set_option Elab.async false
set_option linter.all false
set_option maxRecDepth 100000
set_option maxHeartbeats 4000000
namespace KT
open PySem PySem.Spec PyProof.Rows L2
theorem all26_at {C : Nat → Addr} {i : Nat} {D : Addr} (h : (all26 C)[i]? = some D) : i < 26 ∧ D = C i := by
  have e : all26 C = (List.range 26).map C := rfl
  rw [e, List.getElem?_map] at h
  by_cases hi : i < 26
  · rw [List.getElem?_range hi] at h
    exact ⟨hi, (Option.some.inj h).symm⟩
  · rw [List.getElem?_eq_none (by rw [List.length_range]; omega)] at h
    cases h
theorem code_nat : ∀ i, i < 28 → ((List.range 28).filter fun j => ((List.range 28).map fun j => decide (j = i)).getD j false) = [i] := by decide +kernel
theorem codeOf_one {i : Nat} (h : i < 28) : codeOf ((List.range 28).map fun j => decide (j = i)) 28 = [V.int i] := by
  unfold codeOf
  rw [code_nat i h]
  rfl
theorem codeOf_none : codeOf ((List.range 28).map fun _ => false) 28 = [] := by
  have e : ((List.range 28).filter fun j => ((List.range 28).map fun _ => false).getD j false) = [] := by decide +kernel
  unfold codeOf
  rw [e]
  rfl
/-- lists [off], [off + 1], .. at these addresses -/
theorem dp_ones {K : PySem.W.Frag} {H : Hp} : ∀ (ls : List Addr) (off : Nat), (∀ (j : Nat) (q : Addr), ls[j]? = some q → H q = some (.lst [.int ((off + j : Nat) : Int)])) →
    DpAll K H (ls.map V.ref) ((List.range' off ls.length).map fun j => PyData.list [.int ((j : Nat) : Int)])
  | [], off, h => .nil
  | q :: ls, off, h => by
    have h0 := h 0 q rfl
    rw [List.length_cons, List.range'_succ]
    refine .cons (.lst (SqL.of h0) (.cons (.int _) .nil)) (dp_ones ls (off + 1) fun j q hj => ?_)
    have h1 := h (j + 1) q (by simpa using hj)
    rw [h1]
    congr 5
    omega
abbrev ones (off n : Nat) : PyData := .list ((List.range' off n).map fun j => PyData.list [.int ((j : Nat) : Int)])
theorem ones_eqv : PyData.eqv (ones 0 26) (ones 0 26) = true := by decide +kernel
theorem ones_shaped : SeqAt.shaped (ones 0 26) = true := by decide +kernel
/-- the place of a list of such lists that grows -/
def Grows (off : Nat) (H H' : Hp) (D : Addr) (i : Nat) : Prop := L2.Same H H' ∧ ∃ ls : List Addr, ls.length = i ∧ H' D = some (.lst (ls.map V.ref)) ∧ ∀ (j : Nat) (q : Addr), ls[j]? = some q → H' q = some (.lst [.int ((off + j : Nat) : Int)]) ∧ q ≠ D
theorem Grows.start {off : Nat} {H : Hp} {D : Addr} (h : H D = none) : Grows off H (upd H D (.lst [])) D 0 := ⟨Same.new h, [], rfl, upd_same, fun j q hj => by simp at hj⟩
theorem Grows.step {off : Nat} {H H1 H2 : Hp} {D q : Addr} {i : Nat} (hD : H D = none) (g : Grows off H H1 D i) (s : L2.Same H1 H2) (h : H2 q = some (.lst [.int ((off + i : Nat) : Int)])) (hi : i ≤ 60) :
    ∃ acc, H2 D = some (.lst acc) ∧ acc.length < sizeLine ∧ Grows off H (upd H2 D (.lst (acc ++ [.ref q]))) D (i + 1) := by
  obtain ⟨s1, ls, hl, h1, hj⟩ := g
  have h2 := s _ _ h1
  refine ⟨_, h2, by rw [List.length_map, hl]; exact small1000 (by omega), fun b o e => ?_, ls ++ [q], by simp [hl], ?_, fun j p hp => ?_⟩
  · rw [upd_ne (ne_of_none e hD)]
    exact s _ _ (s1 _ _ e)
  · rw [List.map_append]
    exact upd_same
  · by_cases hlt : j < ls.length
    · rw [List.getElem?_append_left hlt] at hp
      obtain ⟨x1, x2⟩ := hj j p hp
      exact ⟨by rw [upd_ne x2]; exact s _ _ x1, x2⟩
    · rw [List.getElem?_append_right (by omega)] at hp
      have e0 : j - ls.length = 0 := by
        by_cases z : j - ls.length = 0
        · exact z
        · rw [List.getElem?_eq_none (by simp; omega)] at hp
          cases hp
      rw [e0] at hp
      have ep : q = p := Option.some.inj hp
      subst ep
      have ej : j = i := by omega
      subst ej
      by_cases hq : q = D
      · subst hq
        exfalso
        rw [h2] at h
        have e1 := HO.lst.inj (Option.some.inj h)
        cases ls with
        | nil => cases e1
        | cons z zs =>
          have e2 := (List.cons.inj e1).1
          cases e2
      · exact ⟨by rw [upd_ne hq]; exact h, hq⟩
theorem Grows.dp {K : PySem.W.Frag} {H H1 H2 : Hp} {D : Addr} {i : Nat} {off : Nat} (g : Grows off H H1 D i) (s : L2.Same H1 H2) : Dp K H2 (.ref D) (ones off i) := by
  obtain ⟨s1, ls, hl, h1, hj⟩ := g
  rw [← hl]
  exact .lst (SqL.of (s _ _ h1)) (dp_ones ls off fun j q hq => s _ _ (hj j q hq).1)
def spRight (C : Nat → Addr) : Sp := fun vs H Q _ => ∃ (l : Addr) (xs : List V) (v : V) (d : PyData), vs = [.ref l, .str d.shown] ∧ H l = some (.lst xs) ∧ ErrRow H v (all26 C) xs ∧ Rd H d v ∧ d.showable = true ∧ d.depth ≤ 30 ∧ d.shown.length ≤ sizeLine ∧
  ∀ H', L2.Same H H' → Q (.bl true) H'
section
variable {P : Program} {w : World} {K : PySem.W.Frag} {mg : Str → Option Value} {base : Heap} {C : Nat → Addr} {T : Addr}
theorem scRight : FnScope ["_law_some", "_law_noted", "_law_error", "_law_at"] ["_law_some", "_law_noted"] (defScope sRight) := ⟨rfl, rfl, rfl, by decide +kernel, rfl, by decide +kernel, by decide +kernel⟩
theorem boot_repr : bootBuiltins "repr" = some (.builtin "repr") := by decide +kernel
theorem ok_right {f : Addr} {fd : FuncData} (F : Fun K "_law_right" "_law_right" sRight f fd) (B : Blt mg) (B2 : Blt2 mg) (Z : Kits K C T) (S : SysK K) (Co : Cee P w K mg base 1 "_law_code" ["_law_error"] (spCode K C)) (Is : Cee P w K mg base 1 "_law_is_error" ["_law_error"] (spIsErr K T)) :
    GnOk P w K mg base 2 f fd ["_law_some", "_law_noted"] (spRight C) := by
  refine gn_of F scRight (fun vs H Q E h => ?_) (fun cdv A outer s H vs Q hgd hr h => ?_)
  · obtain ⟨l, xs, v, d, rfl, _⟩ := h
    rfl
  · obtain ⟨l, xs, v, d, rfl, hl, er, rd, d1, d2, d3, k⟩ := h
    have nd := scRight.nd
    refine ⟨_, pss_cons (ps_if (pt_cmpR (op_neD hr.units)
        (pe_lc (own := [("_law_error", 2)]) (g := gName 2) (tt := tYes) (te := tCall (spCode K C) [] E0 (tCons (tVar 2) tNil)) rfl nd (pi_list (pv 0)) (blkOk_by (own := [("_law_error", 2)]) (N := ["_law_some", "_law_noted", "_law_error", "_law_at"]) (sc := defScope sRight) (by decide +kernel))
          (fun _ _ _ _ _ => pg_name (i := 2) nd rfl (Or.inl rfl)) (fun _ _ _ _ _ => pts_nil) (fun _ _ _ _ _ => pe_c Co hr rfl (pa_cons (pv 2) pa_nil)))
        (pe_lc (own := [("_law_at", 3)]) (g := gName 3) (tt := tYes) (te := tLst (tCons (tVar 3) tNil)) rfl nd (pi_range1 (by rfl) B.range (pa_cons pe_int pa_nil)) (blkOk_by (own := [("_law_at", 3)]) (N := ["_law_some", "_law_noted", "_law_error", "_law_at"]) (sc := defScope sRight) (by decide +kernel))
          (fun _ _ _ _ _ => pg_name (i := 3) nd rfl (Or.inl rfl)) (fun _ _ _ _ _ => pts_nil) (fun _ _ _ _ _ => pe_lst (pa_cons (pv 3) pa_nil)))
        (nomark _)) (pss_one (ps_ret pe_bl)) pss_nil)
      (pss_one (ps_ret (pe_cmpR (op_eqD hr.units)
        (pe_lc (own := [("_law_error", 2)]) (g := gName 2) (tt := tOr (tNot (tB (tCall (spIsErr K T) [] E0 (tCons (tVar 2) tNil)))) (tTest (tOp rNe (tCB rRepr (tCons (tEV K (tVar 2)) tNil)) (tVar 1)))) (te := tVar 2) rfl nd (pi_list (pv 0))
          (blkOk_by (own := [("_law_error", 2)]) (N := ["_law_some", "_law_noted", "_law_error", "_law_at"]) (sc := defScope sRight) (by decide +kernel))
          (fun _ _ _ _ _ => pg_name (i := 2) nd rfl (Or.inl rfl))
          (fun _ _ _ _ _ => pts_one (PW.pt (pw_or (pt_not (pt_val (pe_c Is hr rfl (pa_cons (pv 2) pa_nil)))) (pw_or1 (pt_cmpR op_ne (pe_callB (call_repr S hgd hr.units) (by rfl) B2.repr boot_repr (pa_cons (pe_ev (pv 2)) pa_nil)) (pv 1) (nomark _))))))
          (fun _ _ _ _ _ => pv 2))
        (pe_lst pa_nil) (nomark _)))), ?_⟩
    refine ⟨_, rfl, l, rfl, ⟨_, SqL.of hl⟩, fun D hD => ?_⟩
    refine lc_list (K := K) (a := l) (xs := xs) (fun i H' => Grows 0 H H' D i ∧ i ≤ 26) ⟨Grows.start hD, by omega⟩ (fun i H1 _ g => SqL.of (g.1.1 _ _ hl)) ?_ ?_
    · rintro i x H1 hi ⟨g, i26⟩
      obtain ⟨a, D0, rfl, hC, ea⟩ := er.at hi
      obtain ⟨i25, rfl⟩ := all26_at hC
      refine ⟨rfl, yes_if ?_⟩
      refine ⟨_, rfl, a, C i, _, rfl, (ea.mono g.1).isExo, Z.i i (by omega), fun j hj => Z.kit i j (by omega) hj, fun q H2 s2 h2 => ?_⟩
      rw [codeOf_one (by omega)] at h2
      obtain ⟨acc, x1, x2, x3⟩ := g.step hD s2 (by rw [Nat.zero_add]; exact h2) (by omega)
      exact ⟨acc, x1, x2, x3, by omega⟩
    · rintro H1 ⟨g1, _⟩
      have xl : xs.length = 26 := er.len
      rw [xl] at g1
      refine ⟨26, rfl, by decide, by decide, fun D2 hD2 => ?_⟩
      refine lc_range (lo := 0) (n := 26) (fun i H' => Grows 0 H1 H' D2 i ∧ i ≤ 26) ⟨Grows.start hD2, by omega⟩ ?_ ?_
      · rintro i H2 hi ⟨g, i26⟩
        refine ⟨rfl, yes_if ?_⟩
        refine ⟨_, rfl, (by show 1 ≤ sizeLine; decide), fun p hp => ?_⟩
        obtain ⟨acc, x1, x2, x3⟩ := g.step (q := p) (H2 := upd H2 p (.lst [.int (0 + (i : Int))])) hD2 (Same.new hp) (by rw [Int.zero_add, Nat.zero_add]; exact upd_same) (by omega)
        exact ⟨acc, x1, x2, x3, by omega⟩
      · rintro H2 ⟨g2, _⟩
        refine ⟨ones 0 26, ones 0 26, g1.dp g2.1, g2.dp (L2.Same.refl _), ones_shaped, ones_shaped, _, rfl, ?_⟩
        rw [ones_eqv]
        refine iteF ?_
        have s2 : L2.Same H H2 := g1.1.trans g2.1
        refine ⟨_, rfl, l, rfl, ⟨_, SqL.of (s2 _ _ hl)⟩, fun D3 hD3 => ?_⟩
        refine lc_list (K := K) (a := l) (xs := xs) (fun i H' => L2.Same H2 H' ∧ H' D3 = some (.lst [])) ⟨Same.new hD3, upd_same⟩ (fun i H3 _ g => SqL.of (g.1 _ _ (s2 _ _ hl))) ?_ ?_
        · rintro i x H3 hi ⟨s3, h3⟩
          obtain ⟨a, D0, rfl, hC, ea⟩ := er.at hi
          obtain ⟨i25, rfl⟩ := all26_at hC
          have ea3 := ea.mono (s2.trans s3)
          refine ⟨rfl, ?_⟩
          refine ⟨_, rfl, a, C i, rfl, ea3.isExo, Z.i i (by omega), Z.up i (by omega), Z.ve i (by omega), true, rfl, ?_⟩
          refine iteF ?_
          refine ⟨_, rfl, a, C i, v, rfl, ea3, Z.f i i25, v, d, rfl, rd.mono (s2.trans s3) , d1, d2, d3, _, rfl, rfl, _, rfl, ?_⟩
          have e : (!decide (V.str d.shown = V.str d.shown)) = false := by simp
          rw [e]
          dsimp only
          rw [if_neg Bool.false_ne_true]
          exact ⟨s3, h3⟩
        · rintro H3 ⟨s3, h3⟩
          refine ⟨Nat.zero_le _, fun p hp => ?_⟩
          refine ⟨.list [], .list [], .lst (SqL.of ((Same.new hp) _ _ h3)) .nil, .lst (SqL.of upd_same) .nil, rfl, rfl, ?_⟩
          have e : PyData.eqv (.list []) (.list []) = true := by decide +kernel
          rw [e]
          exact k _ ((s2.trans s3).trans (Same.new hp))
end
end KT

set_option Elab.async false
set_option linter.all false
set_option maxRecDepth 100000
set_option maxHeartbeats 4000000
namespace KT
open PySem PySem.Spec PyProof.Rows L2
/-! ### the things that the law draws from -/
inductive Kd (H : Hp) (w : Str) : V → PyData → Prop where
  | non : Kd H w .non .none
  | bl (b : Bool) : Kd H w (.bl b) (.bool b)
  | int (i : Int) (h : i.natAbs < 10 ^ 12) : Kd H w (.int i) (.int i)
  | str : Kd H w (.str w) (.str w)
  | says (t : Addr) (h : H t = some (.tup [.str "says", .str w, .int 1, .int 2])) : Kd H w (.ref t) (.tuple [.str "says", .str w, .int 1, .int 2])
  | two (t l : Addr) (h : H t = some (.tup [.str w, .ref l])) (h1 : H l = some (.lst [.str w])) : Kd H w (.ref t) (.tuple [.str w, .list [.str w]])
  | dic (p l : Addr) (h : H p = some (.dK [(.inr w, .ref l)])) (h1 : H l = some (.lst [.str w])) : Kd H w (.ref p) (.dict [(.str w, .list [.str w])])
  | one (l : Addr) (h : H l = some (.lst [.str w])) : Kd H w (.ref l) (.list [.str w])
  | deep (l m p : Addr) (h : H l = some (.lst [.ref m, .ref p])) (h1 : H m = some (.lst [.str w])) (h2 : H p = some (.dK [(.inr "odd", .str w)])) : Kd H w (.ref l) (.list [.list [.str w], .dict [(.str "odd", .str w)]])
theorem Kd.mono {H H' : Hp} {w : Str} (s : L2.Same H H') {x : V} {d : PyData} (k : Kd H w x d) : Kd H' w x d := by
  cases k with
  | non => exact .non
  | bl b => exact .bl b
  | int i h => exact .int i h
  | str => exact .str
  | says t h => exact .says t (s _ _ h)
  | two t l h h1 => exact .two t l (s _ _ h) (s _ _ h1)
  | dic p l h h1 => exact .dic p l (s _ _ h) (s _ _ h1)
  | one l h => exact .one l (s _ _ h)
  | deep l m p h h1 h2 => exact .deep l m p (s _ _ h) (s _ _ h1) (s _ _ h2)
/-- data that a text of bounded size shows -/
def Sh (d : PyData) : Prop := d.showable = true ∧ d.depth ≤ 30 ∧ d.shown.length ≤ sizeLine
theorem sh_of {d : PyData} (h1 : d.showable = true) (h2 : d.depth ≤ 30) (h3 : d.leavesShort 13 = true) (h4 : d.weight ≤ 2 ^ 20) : Sh d := ⟨h1, h2, PyData.shown_fits (by decide) (by decide) h3 h4⟩
theorem wd_low {w : Str} (h : Wd w) : (w.cps.toList.all fun c => decide (c < 16 ^ 8)) = true := by
  rw [List.all_eq_true]
  intro c hc
  have := h.2.2 c hc
  exact decide_eq_true (by omega)
theorem wd_size {w : Str} (h : Wd w) : w.cps.size ≤ 8 := h.2.1
theorem Kd.rd {H : Hp} {w : Str} (hw : Wd w) {x : V} {d : PyData} (k : Kd H w x d) : Rd H d x ∧ Sh d := by
  have lo := wd_low hw
  have sz := wd_size hw
  cases k with
  | non => exact ⟨by simp only [Rd], sh_of (by decide +kernel) (by decide +kernel) (by decide +kernel) (by decide +kernel)⟩
  | bl b => exact ⟨by simp only [Rd], by cases b <;> exact sh_of (by decide +kernel) (by decide +kernel) (by decide +kernel) (by decide +kernel)⟩
  | int i h =>
    have l0 : i.natAbs.log2 < 1920 := by
      by_cases z : i.natAbs = 0
      · rw [z]; decide
      · rw [Nat.log2_lt z]
        exact Nat.lt_of_lt_of_le h (by decide)
    refine ⟨by simp only [Rd], sh_of (by simpa [PyData.showable] using l0) (by simp [PyData.depth]) ?_ ?_⟩
    · simp only [PyData.leavesShort]
      exact decide_eq_true (PyData.shown_int_le h)
    · simp only [PyData.weight]
      split <;> omega
  | str => exact ⟨by simp only [Rd], sh_of (by simp [PyData.showable]) (by simp [PyData.depth]) (by simpa only [PyData.leavesShort] using lo) (by simp only [PyData.weight]; omega)⟩
  | says t h =>
    have z1 : ("says" : Str).cps.size = 4 := by decide +kernel
    have z2 : (("says" : Str).cps.toList.all fun c => decide (c < 16 ^ 8)) = true := by decide +kernel
    refine ⟨?_, sh_of ?_ ?_ ?_ ?_⟩
    · simp only [Rd, RdAll]
      exact ⟨t, _, rfl, h, _, _, rfl, rfl, _, _, rfl, rfl, _, _, rfl, rfl, _, _, rfl, rfl, rfl⟩
    · simp only [PyData.showable, PyData.showableAll]
      decide +kernel
    · simp [PyData.depth, PyData.depthAll]
    · simp only [PyData.leavesShort, PyData.leavesShortAll, Bool.and_true, lo, z2, Bool.true_and]
      decide +kernel
    · have y1 : PyData.weight (.int 1) = 1 := by decide +kernel
      have y2 : PyData.weight (.int 2) = 2 := by decide +kernel
      simp only [PyData.weight.eq_3, PyData.weightAll, y1, y2]
      simp only [PyData.weight, z1]
      omega
  | two t l h h1 =>
    refine ⟨?_, sh_of ?_ ?_ ?_ ?_⟩
    · simp only [Rd, RdAll]
      exact ⟨t, _, rfl, h, _, _, rfl, rfl, _, _, rfl, ⟨l, _, rfl, h1, _, _, rfl, rfl, rfl⟩, rfl⟩
    · simp [PyData.showable, PyData.showableAll]
    · simp [PyData.depth, PyData.depthAll]
    · simp only [PyData.leavesShort, PyData.leavesShortAll, Bool.and_true, lo]
    · simp only [PyData.weight, PyData.weightAll]
      omega
  | dic p l h h1 =>
    refine ⟨?_, sh_of ?_ ?_ ?_ ?_⟩
    · simp only [Rd, RdAll, RdKv]
      exact ⟨p, _, rfl, h, w, _, _, rfl, rfl, ⟨l, _, rfl, h1, _, _, rfl, rfl, rfl⟩, rfl⟩
    · simp [PyData.showable, PyData.showableAll, PyData.showableKv]
    · simp [PyData.depth, PyData.depthAll, PyData.depthKv]
    · simp only [PyData.leavesShort, PyData.leavesShortAll, PyData.leavesShortKv, Bool.and_true, lo]
    · simp only [PyData.weight, PyData.weightAll, PyData.weightKv]
      omega
  | one l h =>
    refine ⟨?_, sh_of ?_ ?_ ?_ ?_⟩
    · simp only [Rd, RdAll]
      exact ⟨l, _, rfl, h, _, _, rfl, rfl, rfl⟩
    · simp [PyData.showable, PyData.showableAll]
    · simp [PyData.depth, PyData.depthAll]
    · simp only [PyData.leavesShort, PyData.leavesShortAll, Bool.and_true]
      exact lo
    · simp only [PyData.weight, PyData.weightAll]
      omega
  | deep l m p h h1 h2 =>
    have z1 : ("odd" : Str).cps.size = 3 := by decide +kernel
    have z2 : (("odd" : Str).cps.toList.all fun c => decide (c < 16 ^ 8)) = true := by decide +kernel
    refine ⟨?_, sh_of ?_ ?_ ?_ ?_⟩
    · simp only [Rd, RdAll, RdKv]
      exact ⟨l, _, rfl, h, _, _, rfl, ⟨m, _, rfl, h1, _, _, rfl, rfl, rfl⟩, _, _, rfl, ⟨p, _, rfl, h2, _, _, _, rfl, rfl, rfl, rfl⟩, rfl⟩
    · simp [PyData.showable, PyData.showableAll, PyData.showableKv]
    · simp [PyData.depth, PyData.depthAll, PyData.depthKv]
    · simp only [PyData.leavesShort, PyData.leavesShortAll, PyData.leavesShortKv, Bool.and_true, lo, z2]
    · simp only [PyData.weight, PyData.weightAll, PyData.weightKv, z1]
      omega
/-! ### the thing is changed -/
/-- all but lists like the thing's, and dictionaries, is as it was -/
def Keep (w : Str) (H H' : Hp) : Prop := ∀ b o, H b = some o → o ≠ .lst [.str w] → (∀ m p, o ≠ .lst [.ref m, .ref p]) → (∀ kvs, o ≠ .dK kvs) → H' b = some o
abbrev isT (K : PySem.W.Frag) (n : String) : TT := tB (tCB (rIsi K) (tCons (tVar 4) (tCons (tC (.ty n)) tNil)))
abbrev lat : TA := tCons (tC (.str "later")) tNil
abbrev put1 (K : PySem.W.Frag) (te : TE) : TS := tDrop (tBM K "list" rAppend te lat)
section
variable {K : PySem.W.Frag} {t u v : TS} {σ : L2.St} {H : Hp} {D : Ends} {A B : TT}
/-- a test comes to b, and changes nothing -/
def Comes (T : TT) (σ : L2.St) (H : Hp) (b : Bool) : Prop := ∀ Q : Bool → Hp → Prop, Q b H → T σ H Q
theorem seq_false (hT : Comes A σ H false) (h : t D σ H) : tSeq (tIfS A u tNext) t D σ H := hT _ (by
  rw [if_neg Bool.false_ne_true]
  exact h)
theorem seq_true (hT : Comes A σ H true) (h : u { D with nx := t D } σ H) : tSeq (tIfS A u tNext) t D σ H := hT _ (by
  rw [if_pos rfl]
  exact h)
theorem and_false (hA : Comes A σ H false) : Comes (tAnd A B) σ H false := fun Q q => hA _ (by
  rw [if_neg Bool.false_ne_true]
  exact q)
theorem and_true {b : Bool} (hA : Comes A σ H true) (hB : Comes B σ H b) : Comes (tAnd A B) σ H b := fun Q q => hA _ (by
  rw [if_pos rfl]
  exact hB Q q)
theorem isT_ok {n m : String} {x : V} {b : Bool} (h4 : σ[4]? = some (some x)) (ty : TyX K H x (.type m)) (e : kitB m n = some b) : Comes (isT K n) σ H b := fun Q q =>
  ⟨x, h4, x, _, _, _, b, rfl, .ty n, ty, kit_ty e, b, rfl, q⟩
end
theorem mutate {K : PySem.W.Frag} {t : TS} {σ : L2.St} {H : Hp} {D : Ends} {w : Str} {x : V} {d : PyData} (h4 : σ[4]? = some (some x)) (h2 : σ[2]? = some (some (.str w))) (hw : Wd w) (kd : Kd H w x d)
    (k : ∀ H' d', Keep w H H' → Rd H' d' x → Sh d' → t D σ H') :
    tSeq (tIfS (isT K "list") (put1 K (tVar 4)) tNext) (tSeq (tIfS (isT K "dict") (tSeq (put1 K (tDGet (tVar 4) (tVar 2))) (sDPut (tVar 4) (tC (.str "LATER")) (tC (.int 1)))) tNext)
      (tSeq (tIfS (tAnd (isT K "tuple") (tB (tCB (rIsi K) (tCons (tOp (rIxT K) (tVar 4) (tC (.int 1))) (tCons (tC (.ty "list")) tNil))))) (put1 K (tOp (rIxT K) (tVar 4) (tC (.int 1)))) tNext) t)) D σ H := by
  have lo := wd_low hw
  have sz := wd_size hw
  have z1 : ("later" : Str).cps.size = 5 := by decide +kernel
  have z2 : (("later" : Str).cps.toList.all fun c => decide (c < 16 ^ 8)) = true := by decide +kernel
  have keep0 : Keep w H H := fun b o e _ _ _ => e
  have plain : ∀ {m : String}, TyX K H x (.type m) → kitB m "list" = some false → kitB m "dict" = some false → kitB m "tuple" = some false → _ := fun {m} ty e1 e2 e3 =>
    seq_false (D := D) (u := put1 K (tVar 4)) (isT_ok h4 ty e1) (seq_false (u := (tSeq (put1 K (tDGet (tVar 4) (tVar 2))) (sDPut (tVar 4) (tC (.str "LATER")) (tC (.int 1))))) (isT_ok h4 ty e2)
      (seq_false (u := (put1 K (tOp (rIxT K) (tVar 4) (tC (.int 1))))) (and_false (B := (tB (tCB (rIsi K) (tCons (tOp (rIxT K) (tVar 4) (tC (.int 1))) (tCons (tC (.ty "list")) tNil))))) (isT_ok h4 ty e3)) (k H d keep0 (kd.rd hw).1 (kd.rd hw).2)))
  cases kd with
  | non => exact plain (.base .non) (by decide +kernel) (by decide +kernel) (by decide +kernel)
  | bl b => exact plain (.base (.bl b)) (by decide +kernel) (by decide +kernel) (by decide +kernel)
  | int i h => exact plain (.base (.int i)) (by decide +kernel) (by decide +kernel) (by decide +kernel)
  | str => exact plain (.base (.str w)) (by decide +kernel) (by decide +kernel) (by decide +kernel)
  | says p h =>
    refine seq_false (isT_ok h4 (.base (.tup h)) (by decide +kernel)) (seq_false (isT_ok h4 (.base (.tup h)) (by decide +kernel)) (seq_false (and_true (isT_ok h4 (.base (.tup h)) (by decide +kernel)) (b := false) fun Q q => ?_) (k H _ keep0 ((Kd.says p h).rd hw).1 ((Kd.says p h).rd hw).2)))
    exact ⟨_, h4, p, _, 1, _, rfl, rfl, SqT.of h, atI_nat (j := 1) rfl, _, _, _, _, false, rfl, .ty "list", .base (.str w), kit_ty (by decide +kernel), false, rfl, q⟩
  | two p l h h1 =>
    refine seq_false (isT_ok h4 (.base (.tup h)) (by decide +kernel)) (seq_false (isT_ok h4 (.base (.tup h)) (by decide +kernel)) (seq_true (and_true (isT_ok h4 (.base (.tup h)) (by decide +kernel)) (b := true) fun Q q => ?_) ?_))
    · exact ⟨_, h4, p, _, 1, _, rfl, rfl, SqT.of h, atI_nat (j := 1) rfl, _, _, _, _, true, rfl, .ty "list", .base (.lst h1), kit_ty (by decide +kernel), true, rfl, q⟩
    · refine ⟨_, h4, p, _, 1, _, rfl, rfl, SqT.of h, atI_nat (j := 1) rfl, .inl ⟨rfl, _, SqL.of h1⟩, l, _, _, rfl, rfl, h1, small1000 (by simp), ?_⟩
      have npl : p ≠ l := ne_of h h1 (by intro z; cases z)
      refine k _ (.tuple [.str w, .list [.str w, .str "later"]]) (fun b o e n1 n2 n3 => ?_) ?_ (sh_of ?_ ?_ ?_ ?_)
      · rw [upd_ne (ne_of e h1 n1)]
        exact e
      · simp only [Rd, RdAll]
        exact ⟨p, _, rfl, (upd_ne npl).trans h, _, _, rfl, rfl, _, _, rfl, ⟨l, _, rfl, upd_same, _, _, rfl, rfl, _, _, rfl, rfl, rfl⟩, rfl⟩
      · simp [PyData.showable, PyData.showableAll]
      · simp [PyData.depth, PyData.depthAll]
      · simp only [PyData.leavesShort, PyData.leavesShortAll, Bool.and_true, lo, z2]
      · simp only [PyData.weight, PyData.weightAll, z1]
        omega
  | one l h =>
    refine seq_true (isT_ok h4 (.base (.lst h)) (by decide +kernel)) ?_
    refine ⟨_, h4, .inl ⟨rfl, _, SqL.of h⟩, l, _, _, rfl, rfl, h, small1000 (by simp), ?_⟩
    have h' : upd H l (.lst ([.str w] ++ [.str "later"])) l = some (.lst [.str w, .str "later"]) := upd_same
    refine seq_false (isT_ok h4 (.base (.lst h')) (by decide +kernel)) (seq_false (and_false (isT_ok h4 (.base (.lst h')) (by decide +kernel))) ?_)
    refine k _ (.list [.str w, .str "later"]) (fun b o e n1 n2 n3 => ?_) ?_ (sh_of ?_ ?_ ?_ ?_)
    · rw [upd_ne (ne_of e h n1)]
      exact e
    · simp only [Rd, RdAll]
      exact ⟨l, _, rfl, h', _, _, rfl, rfl, _, _, rfl, rfl, rfl⟩
    · simp [PyData.showable, PyData.showableAll]
    · simp [PyData.depth, PyData.depthAll]
    · simp only [PyData.leavesShort, PyData.leavesShortAll, Bool.and_true, lo, z2]
    · simp only [PyData.weight, PyData.weightAll, z1]
      omega
  | deep l m p h h1 h2' =>
    have y1 : ("odd" : Str).cps.size = 3 := by decide +kernel
    have y2 : (("odd" : Str).cps.toList.all fun c => decide (c < 16 ^ 8)) = true := by decide +kernel
    refine seq_true (isT_ok h4 (.base (.lst h)) (by decide +kernel)) ?_
    refine ⟨_, h4, .inl ⟨rfl, _, SqL.of h⟩, l, _, _, rfl, rfl, h, small1000 (by simp), ?_⟩
    have h' : upd H l (.lst ([.ref m, .ref p] ++ [.str "later"])) l = some (.lst [.ref m, .ref p, .str "later"]) := upd_same
    have nm : m ≠ l := ne_of h1 h (by intro z; cases z)
    have np : p ≠ l := ne_of h2' h (by intro z; cases z)
    refine seq_false (isT_ok h4 (.base (.lst h')) (by decide +kernel)) (seq_false (and_false (isT_ok h4 (.base (.lst h')) (by decide +kernel))) ?_)
    refine k _ (.list [.list [.str w], .dict [(.str "odd", .str w)], .str "later"]) (fun b o e n1 n2 n3 => ?_) ?_ (sh_of ?_ ?_ ?_ ?_)
    · rw [upd_ne (ne_of e h (n2 m p))]
      exact e
    · simp only [Rd, RdAll, RdKv]
      exact ⟨l, _, rfl, h', _, _, rfl, ⟨m, _, rfl, (upd_ne nm).trans h1, _, _, rfl, rfl, rfl⟩, _, _, rfl, ⟨p, _, rfl, (upd_ne np).trans h2', _, _, _, rfl, rfl, rfl, rfl⟩, _, _, rfl, rfl, rfl⟩
    · simp [PyData.showable, PyData.showableAll, PyData.showableKv]
    · simp [PyData.depth, PyData.depthAll, PyData.depthKv]
    · simp only [PyData.leavesShort, PyData.leavesShortAll, PyData.leavesShortKv, Bool.and_true, lo, z2, y2]
    · simp only [PyData.weight, PyData.weightAll, PyData.weightKv, z1, y1]
      omega
  | dic p l h h1 =>
    have y1 : ("LATER" : Str).cps.size = 5 := by decide +kernel
    have y2 : (("LATER" : Str).cps.toList.all fun c => decide (c < 16 ^ 8)) = true := by decide +kernel
    have nw : w ≠ "LATER" := fun e => by
      have q := hw.2.2 76 (by rw [e]; decide +kernel)
      omega
    refine seq_false (isT_ok h4 (.base (.dK h)) (by decide +kernel)) (seq_true (isT_ok h4 (.base (.dK h)) (by decide +kernel)) ?_)
    have npl : p ≠ l := ne_of h h1 (by intro z; cases z)
    have hg : DGet H p (kV (.inr w)) (valV [((Sum.inr w : Key), V.ref l)] (.inr w)) := DGet.k h
    have hv : valV [((Sum.inr w : Key), V.ref l)] (.inr w) = some (.ref l) := valV_pos rfl
    rw [hv] at hg
    refine ⟨_, h4, _, h2, p, .ref l, rfl, hg, .inl ⟨rfl, _, SqL.of h1⟩, l, _, _, rfl, rfl, h1, small1000 (by simp), ?_⟩
    have h' : upd H l (.lst ([.str w] ++ [.str "later"])) p = some (.dK [(.inr w, .ref l)]) := (upd_ne npl).trans h
    have ep : putK [((Sum.inr w : Key), V.ref l)] (Sum.inr "LATER") (.int 1) = [((Sum.inr w : Key), V.ref l), (Sum.inr "LATER", .int 1)] := by
      unfold putK
      rw [if_neg (by simp [nw])]
      rfl
    refine ⟨_, h4, p, _, rfl, DPut.k (k := Sum.inr "LATER") h' (small1000 (by simp)), ?_⟩
    rw [ep]
    have h3 : upd (upd H l (.lst ([.str w] ++ [.str "later"]))) p (.dK [((Sum.inr w : Key), V.ref l), (Sum.inr "LATER", .int 1)]) p = some (.dK [((Sum.inr w : Key), V.ref l), (Sum.inr "LATER", .int 1)]) := upd_same
    refine seq_false (and_false (isT_ok h4 (.base (.dK h3)) (by decide +kernel))) ?_
    refine k _ (.dict [(.str w, .list [.str w, .str "later"]), (.str "LATER", .int 1)]) (fun b o e n1 n2 n3 => ?_) ?_ (sh_of ?_ ?_ ?_ ?_)
    · rw [upd_ne (ne_of e h (n3 _)), upd_ne (ne_of e h1 n1)]
      exact e
    · simp only [Rd, RdAll, RdKv]
      exact ⟨p, _, rfl, h3, w, _, _, rfl, rfl, ⟨l, _, rfl, (upd_ne npl.symm).trans upd_same, _, _, rfl, rfl, _, _, rfl, rfl, rfl⟩, _, _, _, rfl, rfl, rfl, rfl⟩
    · simp only [PyData.showable, PyData.showableAll, PyData.showableKv]
      decide +kernel
    · simp [PyData.depth, PyData.depthAll, PyData.depthKv]
    · simp only [PyData.leavesShort, PyData.leavesShortAll, PyData.leavesShortKv, Bool.and_true, lo, z2, y2, Bool.true_and]
      decide +kernel
    · have x1 : PyData.weight (.int 1) = 1 := by decide +kernel
      simp only [PyData.weight.eq_4, PyData.weightKv, PyData.weightAll, x1]
      simp only [PyData.weight, PyData.weightAll, z1, y1]
      omega
end KT

set_option Elab.async false
set_option linter.all false
set_option maxRecDepth 100000
set_option maxHeartbeats 8000000
namespace KT
open PySem PySem.Spec PyProof.Rows L2
theorem at_slots {t : TS} {D : Ends} {σ σ' : L2.St} {H : Hp} (e : σ = σ') (h : t D σ' H) : t D σ H := by
  subst e
  exact h
theorem at_name {i : Nat} {v : V} {σ σ' : L2.St} {H : Hp} {Q : L2.St → Hp → Prop} (e : σ.set i (some v) = σ') (h : Q σ' H) : gName i v σ H Q := by
  subst e
  exact h
theorem Same.keep {w : Str} {H H' : Hp} (s : L2.Same H H') : Keep w H H' := fun b o e _ _ _ => s b o e
theorem ErrAt.keep {w : Str} {H H' : Hp} {a C : Addr} {v : V} (s : Keep w H H') (h : ErrAt H a C v) : ErrAt H' a C v := by
  obtain ⟨d, h1, h2⟩ := h
  refine ⟨d, s _ _ h1 (fun z => ?_) (fun m p z => ?_) fun k z => ?_, s _ _ h2 (fun z => ?_) (fun m p z => ?_) fun k z => ?_⟩
  all_goals
    unfold exo at z <;> cases z
theorem ErrRow.keep {w : Str} {H H' : Hp} {v : V} (s : Keep w H H') : ∀ {Cs : List Addr} {xs : List V}, ErrRow H v Cs xs → ErrRow H' v Cs xs
  | [], _, h => h
  | C :: Cs, _, ⟨a, t, e, h1, h2⟩ => ⟨a, t, e, h1.keep s, ErrRow.keep s h2⟩
theorem keep_long {w : Str} {H H' : Hp} (s : Keep w H H') {l : Addr} {xs : List V} (h : H l = some (.lst xs)) (n : 3 ≤ xs.length) : H' l = some (.lst xs) := by
  refine s _ _ h (fun z => ?_) (fun m p z => ?_) fun k z => by cases z
  · have e := HO.lst.inj z
    rw [e] at n
    simp at n
  · have e := HO.lst.inj z
    rw [e] at n
    simp at n
def spLaw (K : PySem.W.Frag) : Sp := fun vs H Q _ => ∃ (a : Addr) (ns : List Int), vs = [.ref a] ∧ SqL K H a (ns.map V.int) ∧ ns.length ≤ 63 ∧ ∀ H', Q (.bl true) H'
abbrev nLaw : List Str := ["_law_script", "_law_purse_here", "_law_word_here", "_law_plain", "_law_thing", "_law_noted", "_law_some", "_law_called_here", "_law_later", "_law_rest", "_law_error"]
section
variable {P : Program} {w : World} {K : PySem.W.Frag} {mg : Str → Option Value} {base : Heap} {C : Nat → Addr} {T : Addr}
theorem scLaw : FnScope nLaw ["_law_script"] (defScope sLaw) := ⟨rfl, rfl, rfl, by decide +kernel, rfl, by decide +kernel, by decide +kernel⟩
theorem ok_law {f : Addr} {fd : FuncData} (F : Fun K "law" "law" sLaw f fd) (B : Blt mg) (B2 : Blt2 mg) (Z : Kits K C T) (S : SysK K)
    (Pu : Cee P w K mg base 2 "_law_purses" ["_law_script", "_law_few"] (spPurses K)) (Wo : Cee P w K mg base 3 "_law_word" ["_law_purse_here"] spWord) (On : Cee P w K mg base 3 "_law_one_of" ["_law_purse_here", "_law_some"] spOneOf)
    (Fi : Cee P w K mg base 3 "_law_first" ["_law_thing"] (spRow (all26 C))) (Ca : Cee P w K mg base 3 "_law_called" ["_law_thing"] (spRow (all26 C))) (Ba : Cee P w K mg base 3 "_law_bare" [] (spRow0 (all26 C)))
    (Co : Cee P w K mg base 1 "_law_code" ["_law_error"] (spCode K C)) (Is : Cee P w K mg base 1 "_law_is_error" ["_law_error"] (spIsErr K T)) (Ri : Gee P w K mg base 2 "_law_right" ["_law_some", "_law_noted"] (spRight C))
    (Z26 : TwiC P w K mg base "NothingToUndo" (C 26)) (Z27 : TwiC P w K mg base "NothingToRedo" (C 27)) (ZT : TwiC P w K mg base "TwiceError" T) : GnOk P w K mg base 4 f fd ["_law_script"] (spLaw K) := by
  refine gn_of F scLaw (fun vs H Q E h => ?_) (fun cdv A outer s H vs Q hgd hr h => ?_)
  · obtain ⟨a, ns, rfl, _⟩ := h
    rfl
  · obtain ⟨a, ns, rfl, hS, few, k⟩ := h
    have nd := scLaw.nd
    refine ⟨_, pss_cons (ps_for PassesOwn.never rfl (pi_list (pe_c Pu hr rfl (pa_cons (pv 0) (pa_cons pe_int pa_nil)))) (pg_name (i := 1) nd rfl (Or.inl rfl))
        (pss_cons (ps_set (i := 2) nd rfl (Or.inl rfl) (pe_c Wo hr rfl (pa_cons (pv 1) pa_nil)))
        (pss_cons (ps_set (i := 3) nd rfl (Or.inl rfl) (pe_lst (pa_cons pe_non (pa_cons pe_bl (pa_cons pe_bl (pa_cons pe_int (pa_cons (pv 2) (pa_cons (pe_un un_neg (pe_ix ix_list (pv 1) pe_int (fun _ _ => rfl)))
          (pa_cons (pe_tup (pa_cons pe_str (pa_cons (pv 2) (pa_cons pe_int (pa_cons pe_int pa_nil))))) (pa_cons (pe_tup (pa_cons (pv 2) (pa_cons (pe_lst (pa_cons (pv 2) pa_nil)) pa_nil)))
          (pa_cons (pe_disp (pps_cons (pv 2) (pe_lst (pa_cons (pv 2) pa_nil)) pps_nil) (by rfl) (by rfl) (fun z => by cases z) (by decide)) pa_nil)))))))))))
        (pss_cons (ps_set (i := 4) nd rfl (Or.inl rfl) (pe_c On hr rfl (pa_cons (pv 1) (pa_cons (pe_op op_cat (pv 3) (pe_lst (pa_cons (pe_lst (pa_cons (pv 2) pa_nil))
          (pa_cons (pe_lst (pa_cons (pe_lst (pa_cons (pv 2) pa_nil)) (pa_cons (pe_disp (pps_cons pe_str (pv 2) pps_nil) (by rfl) (by rfl) (fun z => by cases z) (by decide)) pa_nil))) pa_nil)))) pa_nil))))
        (pss_cons (ps_set (i := 5) nd rfl (Or.inl rfl) (pe_callB (call_repr S hgd hr.units) (by rfl) B2.repr boot_repr (pa_cons (pv 4) pa_nil)))
        (pss_cons (ps_par3 (i := 6) (j := 7) (l := 8) rfl nd rfl rfl rfl (by decide) (by decide) (by decide) rfl rfl rfl (pa_cons (pe_c Fi hr rfl (pa_cons (pv 4) pa_nil)) (pa_cons (pe_c Ca hr rfl (pa_cons (pv 4) pa_nil))
          (pa_cons (pe_c Fi hr rfl (pa_cons (pe_tup (pa_cons pe_str (pa_cons (pv 2) pa_nil))) pa_nil)) pa_nil))) (by rfl))
        (pss_cons (ps_if (PW.pt (pw_or (pt_not (pt_val (pe_g Ri hgd hr rfl (pa_cons (pe_c0 Ba hr rfl) (pa_cons pe_str pa_nil)))))
          (pw_or1 (pt_not (pt_val (pe_g Ri hgd hr rfl (pa_cons (pv 8) (pa_cons (pe_callB (call_repr S hgd hr.units) (by rfl) B2.repr boot_repr (pa_cons (pe_tup (pa_cons pe_str (pa_cons (pv 2) pa_nil))) pa_nil)) pa_nil)))))))) (pss_one (ps_ret pe_bl)) pss_nil)
        (pss_cons (ps_if (PW.pt (pw_or (pt_not (pt_val (pe_g Ri hgd hr rfl (pa_cons (pv 6) (pa_cons (pv 5) pa_nil))))) (pw_or1 (pt_not (pt_val (pe_g Ri hgd hr rfl (pa_cons (pv 7) (pa_cons (pv 5) pa_nil)))))))) (pss_one (ps_ret pe_bl)) pss_nil)
        (pss_cons (ps_if (pt_val (pe_callB call_isi (by rfl) B2.isi boot_isi (pa_cons (pv 4) (pa_cons (pe_bltn (v := .ty "list") (by rfl) B2.list (by decide +kernel) rfl) pa_nil))))
          (pss_one (ps_expr (pe_bm PySem.F.plainAttrs_list PySem.F.slot_list_append PySem.F.type_list_append mt_append (pv 4) (pa_cons pe_str pa_nil)))) pss_nil)
        (pss_cons (ps_if (pt_val (pe_callB call_isi (by rfl) B2.isi boot_isi (pa_cons (pv 4) (pa_cons (pe_bltn (v := .ty "dict") (by rfl) B2.dict (by decide +kernel) rfl) pa_nil))))
          (pss_cons (ps_expr (pe_bm PySem.F.plainAttrs_list PySem.F.slot_list_append PySem.F.type_list_append mt_append (pe_dget (hu_of hr) (pv 4) (pv 2) (fun _ _ => rfl)) (pa_cons pe_str pa_nil)))
            (pss_one (ps_dput (hu_of hr) (pv 4) pe_str pe_int rfl))) pss_nil)
        (pss_cons (ps_if (PW.pt (pw_and (pt_val (pe_callB call_isi (by rfl) B2.isi boot_isi (pa_cons (pv 4) (pa_cons (pe_bltn (v := .ty "tuple") (by rfl) B2.tuple (by decide +kernel) rfl) pa_nil))))
            (pw_and1 (pt_val (pe_callB call_isi (by rfl) B2.isi boot_isi (pa_cons (pe_ix ix_tup (pv 4) pe_int (fun _ _ => rfl)) (pa_cons (pe_bltn (v := .ty "list") (by rfl) B2.list (by decide +kernel) rfl) pa_nil)))))))
          (pss_one (ps_expr (pe_bm PySem.F.plainAttrs_list PySem.F.slot_list_append PySem.F.type_list_append mt_append (pe_ix ix_tup (pv 4) pe_int (fun _ _ => rfl)) (pa_cons pe_str pa_nil)))) pss_nil)
        (pss_one (ps_if (PW.pt (pw_or (pt_not (pt_val (pe_g Ri hgd hr rfl (pa_cons (pv 6) (pa_cons (pe_callB (call_repr S hgd hr.units) (by rfl) B2.repr boot_repr (pa_cons (pv 4) pa_nil)) pa_nil)))))
          (pw_or1 (pt_not (pt_val (pe_g Ri hgd hr rfl (pa_cons (pv 7) (pa_cons (pe_callB (call_repr S hgd hr.units) (by rfl) B2.repr boot_repr (pa_cons (pv 4) pa_nil)) pa_nil)))))))) (pss_one (ps_ret pe_bl)) pss_nil)))))))))))))
      (pss_cons (ps_set (i := 9) nd rfl (Or.inl rfl) (pe_lst (pa_cons (pe_t0 Z26 hr rfl) (pa_cons (pe_t0 Z27 hr rfl) pa_nil))))
      (pss_cons (ps_if (pt_cmpR (op_neD hr.units)
          (pe_lc (own := [("_law_error", 10)]) (g := gName 10) (tt := tYes) (te := tCall (spCode K C) [] E0 (tCons (tVar 10) tNil)) rfl nd (pi_list (pv 9)) (blkOk_by (own := [("_law_error", 10)]) (N := nLaw) (sc := defScope sLaw) (by decide +kernel))
            (fun _ _ _ _ _ => pg_name (i := 10) nd rfl (Or.inl rfl)) (fun _ _ _ _ _ => pts_nil) (fun _ _ _ _ _ => pe_c Co hr rfl (pa_cons (pv 10) pa_nil)))
          (pe_lst (pa_cons (pe_lst (pa_cons pe_int pa_nil)) (pa_cons (pe_lst (pa_cons pe_int pa_nil)) pa_nil))) (nomark _)) (pss_one (ps_ret pe_bl)) pss_nil)
      (pss_cons (ps_expr (pe_bm PySem.F.plainAttrs_list PySem.F.slot_list_append PySem.F.type_list_append mt_append (pv 9) (pa_cons (pe_t0 ZT hr rfl) pa_nil)))
      (pss_one (ps_ret (pe_and (pe_callB (cr_all rfl) (by rfl) B2.all (by decide +kernel) (pa_cons
          (pe_lc (own := [("_law_error", 10)]) (g := gName 10) (tt := tYes) (te := tCall (spIsErr K T) [] E0 (tCons (tVar 10) tNil)) rfl nd (pi_list (pv 9)) (blkOk_by (own := [("_law_error", 10)]) (N := nLaw) (sc := defScope sLaw) (by decide +kernel))
            (fun _ _ _ _ _ => pg_name (i := 10) nd rfl (Or.inl rfl)) (fun _ _ _ _ _ => pts_nil) (fun _ _ _ _ _ => pe_c Is hr rfl (pa_cons (pv 10) pa_nil))) pa_nil))
        (pe_one (pe_cmpR (op_eqD hr.units) (pe_c Co hr rfl (pa_cons (pe_ix ix_list (pv 9) pe_int (fun _ _ => rfl)) pa_nil)) (pe_lst pa_nil) (nomark _))))))))), ?_⟩
    refine ⟨_, rfl, a, ns, 1, rfl, hS, few, by decide, by decide, fun l ps H1 s1 h1 hp pnd pne pl => ?_⟩
    obtain ⟨p, rfl⟩ : ∃ p, ps = [p] := by
      match ps, pne, pl with
      | [p], _, _ => exact ⟨p, rfl⟩
      | _ :: _ :: _, _, h => simp at h; omega
    obtain ⟨hP0, hpn, npl⟩ := hp p (List.mem_singleton.mpr rfl)
    refine ⟨l, rfl, ⟨_, SqL.of h1⟩, ?_⟩
    refine for_list (K := K) (a := l) (xs := [.ref p]) (fun i σ H' => (∃ x1 x2 x3 x4 x5 x6 x7 x8 x9 x10 : Option V, σ = [some (.ref a), x1, x2, x3, x4, x5, x6, x7, x8, x9, x10]) ∧ H' l = some (.lst [.ref p]) ∧ (i = 0 → PurseAt H' p 0)) ?_ ?_ ?_ ?_
    · exact ⟨⟨_, _, _, _, _, _, _, _, _, _, rfl⟩, h1, fun _ => hP0⟩
    · rintro i σ H2 hi ⟨_, hl2, _⟩
      exact SqL.of hl2
    · rintro i x σ H2 hi ⟨⟨x1, x2, x3, x4, x5, x6, x7, x8, x9, x10, rfl⟩, hl2, hP⟩
      have i0 : i = 0 := by
        match i, hi with
        | 0, _ => rfl
        | j + 1, h => simp at h
      subst i0
      obtain rfl : x = .ref p := by
        have e := Option.some.inj hi
        exact e.symm
      have hP2 := hP rfl
      -- word
      refine ⟨_, rfl, p, 0, rfl, hP2, by decide, by decide, fun wd H3 hw bt3 hP3 => ?_⟩
      refine at_name (σ' := [some (.ref a), some (.ref p), some (.str wd), x3, x4, x5, x6, x7, x8, x9, x10]) rfl ?_
      -- plain
      obtain ⟨pa, pb, pc, pd, hp3, pb0, pb1, pc0, pc1⟩ := hP3
      refine ⟨_, rfl, _, rfl, p, _, 1, _, rfl, rfl, SqL.of hp3, atI_nat (j := 1) rfl, pb, rfl, ?_⟩
      refine ⟨_, rfl, (by show 4 ≤ sizeLine; decide), fun t1 ht1 => ?_⟩
      have s4 := Same.new (o := .tup [.str "says", .str wd, .int 1, .int 2]) ht1
      have e1 : upd H3 t1 (.tup [.str "says", .str wd, .int 1, .int 2]) t1 = _ := upd_same
      generalize upd H3 t1 (.tup [.str "says", .str wd, .int 1, .int 2]) = G1 at s4 e1 ⊢
      refine ⟨_, rfl, _, rfl, (by show 1 ≤ sizeLine; decide), fun l1 hl1 => ?_⟩
      have s5 := Same.new (o := .lst [.str wd]) hl1
      have e2 : upd G1 l1 (.lst [.str wd]) l1 = _ := upd_same
      generalize upd G1 l1 (.lst [.str wd]) = G2 at s5 e2 ⊢
      refine ⟨(by show 2 ≤ sizeLine; decide), fun t2 ht2 => ?_⟩
      have s6 := Same.new (o := .tup [.str wd, .ref l1]) ht2
      have e3 : upd G2 t2 (.tup [.str wd, .ref l1]) t2 = _ := upd_same
      generalize upd G2 t2 (.tup [.str wd, .ref l1]) = G3 at s6 e3 ⊢
      refine fun d1 hd1 => ?_
      refine ⟨_, rfl, _, rfl, (by show 1 ≤ sizeLine; decide), fun l2 hl2' => ?_⟩
      have nl2 : l2 ≠ d1 := fun e => by
        rw [e, upd_same] at hl2'
        cases hl2'
      refine ⟨?_, [(.inr wd, .ref l2)], rfl, by simp, ?_⟩
      · rw [upd_ne nl2.symm]
        exact upd_same
      have hG3l2 : G3 l2 = none := by
        rw [upd_ne nl2] at hl2'
        exact hl2'
      have s7 : L2.Same G3 (upd (upd (upd G3 d1 (.dK [])) l2 (.lst [.str wd])) d1 (.dK (mergeK [] [(.inr wd, .ref l2)]))) := fun b o e => by
        rw [upd_ne (ne_of_none e hd1), upd_ne (ne_of_none e hG3l2), upd_ne (ne_of_none e hd1)]
        exact e
      have e4 : upd (upd (upd G3 d1 (.dK [])) l2 (.lst [.str wd])) d1 (.dK (mergeK [] [(.inr wd, .ref l2)])) d1 = some (.dK [(.inr wd, .ref l2)]) := upd_same
      have e5 : upd (upd (upd G3 d1 (.dK [])) l2 (.lst [.str wd])) d1 (.dK (mergeK [] [(.inr wd, .ref l2)])) l2 = some (.lst [.str wd]) := (upd_ne nl2).trans upd_same
      generalize upd (upd (upd G3 d1 (.dK [])) l2 (.lst [.str wd])) d1 (.dK (mergeK [] [(.inr wd, .ref l2)])) = G4 at s7 e4 e5 ⊢
      refine ⟨(by show 9 ≤ sizeLine; decide), fun pl hpl => ?_⟩
      have s8 := Same.new (o := .lst [.non, .bl true, .bl false, .int 0, .str wd, .int (-pb), .ref t1, .ref t2, .ref d1]) hpl
      have e6 : upd G4 pl (.lst [.non, .bl true, .bl false, .int 0, .str wd, .int (-pb), .ref t1, .ref t2, .ref d1]) pl = _ := upd_same
      refine at_name (σ' := [some (.ref a), some (.ref p), some (.str wd), some (.ref pl), x4, x5, x6, x7, x8, x9, x10]) rfl ?_
      generalize upd G4 pl (.lst [.non, .bl true, .bl false, .int 0, .str wd, .int (-pb), .ref t1, .ref t2, .ref d1]) = G5 at s8 e6 ⊢
      -- thing
      refine ⟨_, rfl, _, rfl, _, rfl, (by show 1 ≤ sizeLine; decide), fun m1 hm1 => ?_⟩
      have s9 := Same.new (o := .lst [.str wd]) hm1
      have e7 : upd G5 m1 (.lst [.str wd]) m1 = _ := upd_same
      generalize upd G5 m1 (.lst [.str wd]) = G6 at s9 e7 ⊢
      refine ⟨_, rfl, (by show 1 ≤ sizeLine; decide), fun m2 hm2 => ?_⟩
      have s10 := Same.new (o := .lst [.str wd]) hm2
      have e8 : upd G6 m2 (.lst [.str wd]) m2 = _ := upd_same
      generalize upd G6 m2 (.lst [.str wd]) = G7 at s10 e8 ⊢
      refine fun d2 hd2 => ?_
      refine ⟨_, rfl, upd_same, [(.inr "odd", .str wd)], rfl, by simp, ?_⟩
      have s11 : L2.Same G7 (upd (upd G7 d2 (.dK [])) d2 (.dK (mergeK [] [(.inr "odd", .str wd)]))) := fun b o e => by
        rw [upd_ne (ne_of_none e hd2), upd_ne (ne_of_none e hd2)]
        exact e
      have e9 : upd (upd G7 d2 (.dK [])) d2 (.dK (mergeK [] [(.inr "odd", .str wd)])) d2 = some (.dK [(.inr "odd", .str wd)]) := upd_same
      generalize upd (upd G7 d2 (.dK [])) d2 (.dK (mergeK [] [(.inr "odd", .str wd)])) = G8 at s11 e9 ⊢
      refine ⟨(by show 2 ≤ sizeLine; decide), fun m3 hm3 => ?_⟩
      have s12 := Same.new (o := .lst [.ref m2, .ref d2]) hm3
      have e10 : upd G8 m3 (.lst [.ref m2, .ref d2]) m3 = _ := upd_same
      generalize upd G8 m3 (.lst [.ref m2, .ref d2]) = G9 at s12 e10 ⊢
      refine ⟨(by show 2 ≤ sizeLine; decide), fun m4 hm4 => ?_⟩
      have s13 := Same.new (o := .lst [.ref m1, .ref m3]) hm4
      have e11 : upd G9 m4 (.lst [.ref m1, .ref m3]) m4 = _ := upd_same
      generalize upd G9 m4 (.lst [.ref m1, .ref m3]) = G10 at s13 e11 ⊢
      have sA : L2.Same G5 G10 := s9.trans (s10.trans (s11.trans (s12.trans s13)))
      refine ⟨pl, m4, _, _, rfl, rfl, sA _ _ e6, e11, (by show 9 + 2 ≤ sizeLine; decide), fun q hq => ?_⟩
      have s14 := Same.new (o := .lst ([.non, .bl true, .bl false, .int 0, .str wd, .int (-pb), .ref t1, .ref t2, .ref d1] ++ [.ref m1, .ref m3])) hq
      have e12 : upd G10 q (.lst ([.non, .bl true, .bl false, .int 0, .str wd, .int (-pb), .ref t1, .ref t2, .ref d1] ++ [.ref m1, .ref m3])) q = _ := upd_same
      generalize upd G10 q (.lst ([.non, .bl true, .bl false, .int 0, .str wd, .int (-pb), .ref t1, .ref t2, .ref d1] ++ [.ref m1, .ref m3])) = G11 at s14 e12 ⊢
      have sB : L2.Same G9 G11 := s13.trans s14
      have sC : L2.Same G8 G11 := s12.trans sB
      have sD : L2.Same G7 G11 := s11.trans sC
      have sE : L2.Same G6 G11 := s10.trans sD
      have sF : L2.Same G5 G11 := s9.trans sE
      have sG : L2.Same G4 G11 := s8.trans sF
      have sH : L2.Same G3 G11 := s7.trans sG
      have sI : L2.Same G2 G11 := s6.trans sH
      have sJ : L2.Same G1 G11 := s5.trans sI
      have sK : L2.Same H3 G11 := s4.trans sJ
      have hp11 := sK _ _ hp3
      have npq : p ≠ q := ne_of hp11 e12 (by intro z; cases z)
      refine ⟨p, q, _, 40, rfl, npq, ⟨pa, pb, pc, pd, hp11, pb0, pb1, pc0, pc1⟩, by decide, by decide, e12, (by simp), (by simp), fun x H4 hx bt4 hP4 => ?_⟩
      have far : ∀ {b : Addr} {o : HO}, G11 b = some o → (∀ c : Int, o ≠ .lst [.int pa, .int pb, .int c, .int pd]) → H4 b = some o := fun {b o} e n => bt4 b o (fun z => by
        rw [z, hp11] at e
        exact n pc (Option.some.inj e).symm) e
      have kd : ∃ d, Kd H4 wd x d := by
        simp only [List.mem_append, List.mem_cons, List.not_mem_nil, or_false] at hx
        have w1 := far (sJ _ _ e1) (fun c z => by cases z)
        have w2 := far (sI _ _ e2) (fun c z => by cases z)
        have w3 := far (sH _ _ e3) (fun c z => by cases z)
        have w4 := far (sG _ _ e4) (fun c z => by cases z)
        have w5 := far (sG _ _ e5) (fun c z => by cases z)
        have w7 := far (sE _ _ e7) (fun c z => by cases z)
        have w8 := far (sD _ _ e8) (fun c z => by cases z)
        have w9 := far (sC _ _ e9) (fun c z => by cases z)
        have w10 := far (sB _ _ e10) (fun c z => by cases z)
        rcases hx with (h | h | h | h | h | h | h | h | h) | h | h <;> subst h
        · exact ⟨_, .non⟩
        · exact ⟨_, .bl true⟩
        · exact ⟨_, .bl false⟩
        · exact ⟨_, .int 0 (by decide)⟩
        · exact ⟨_, .str⟩
        · exact ⟨_, .int (-pb) (by omega)⟩
        · exact ⟨_, .says t1 w1⟩
        · exact ⟨_, .two t2 l1 w3 w2⟩
        · exact ⟨_, .dic d1 l2 w4 w5⟩
        · exact ⟨_, .one m1 w7⟩
        · exact ⟨_, .deep m3 m2 d2 w10 w8 w9⟩
      have hl4 : H4 l = some (.lst [.ref p]) := far (sK _ _ (bt3 _ _ npl.symm hl2)) (fun c z => by cases z)
      obtain ⟨d, kd⟩ := kd
      obtain ⟨rd4, sh1, sh2, sh3⟩ := kd.rd hw
      refine at_name (σ' := [some (.ref a), some (.ref p), some (.str wd), some (.ref pl), some x, x5, x6, x7, x8, x9, x10]) rfl ?_
      -- noted
      refine ⟨_, rfl, x, d, rfl, rd4, sh1, sh2, sh3, ?_⟩
      refine at_name (σ' := [some (.ref a), some (.ref p), some (.str wd), some (.ref pl), some x, some (.str d.shown), x6, x7, x8, x9, x10]) rfl ?_
      -- some, called, later
      refine ⟨_, rfl, x, rfl, fun la xa H5 s15 ha ea => ?_⟩
      refine ⟨_, rfl, x, rfl, fun lb xb H6 s16 hb eb => ?_⟩
      refine ⟨_, rfl, (by show 2 ≤ sizeLine; decide), fun t3 ht3 => ?_⟩
      have s17 := Same.new (o := .tup [.str "later", .str wd]) ht3
      have e13 : upd H6 t3 (.tup [.str "later", .str wd]) t3 = _ := upd_same
      generalize upd H6 t3 (.tup [.str "later", .str wd]) = H7 at s17 e13 ⊢
      refine ⟨.ref t3, rfl, fun lc xc H8 s18 hc ec => ?_⟩
      refine ⟨_, _, _, rfl, ?_⟩
      refine at_slots (σ' := [some (.ref a), some (.ref p), some (.str wd), some (.ref pl), some x, some (.str d.shown), some (.ref la), some (.ref lb), some (.ref lc), x9, x10]) rfl ?_
      have sL : L2.Same H5 H8 := s16.trans (s17.trans s18)
      have sM : L2.Same H6 H8 := s17.trans s18
      have sN : L2.Same H4 H8 := s15.trans sL
      have ha8 := sL _ _ ha
      have ea8 := ea.mono sL
      have hb8 := sM _ _ hb
      have eb8 := eb.mono sM
      -- the errors without a field; those of a later thing
      have shL : ∀ G : Hp, ∀ t : Addr, G t = some (.tup [.str "later", .str wd]) → Rd G (.tuple [.str "later", .str wd]) (.ref t) ∧ Sh (.tuple [.str "later", .str wd]) := by
        intro G t ht
        have lo := wd_low hw
        have sz := wd_size hw
        have z1 : ("later" : Str).cps.size = 5 := by decide +kernel
        have z2 : (("later" : Str).cps.toList.all fun c => decide (c < 16 ^ 8)) = true := by decide +kernel
        refine ⟨?_, sh_of ?_ ?_ ?_ ?_⟩
        · simp only [Rd, RdAll]
          exact ⟨t, _, rfl, ht, _, _, rfl, rfl, _, _, rfl, rfl, rfl⟩
        · simp [PyData.showable, PyData.showableAll]
        · simp [PyData.depth, PyData.depthAll]
        · simp only [PyData.leavesShort, PyData.leavesShortAll, Bool.and_true, lo, z2]
        · simp only [PyData.weight, PyData.weightAll, z1]
          omega
      have shN : Rd H8 .none .non ∧ Sh .none := ⟨by simp only [Rd], sh_of (by decide +kernel) (by decide +kernel) (by decide +kernel) (by decide +kernel)⟩
      refine ⟨rfl, fun ld xd H9 s19 hd ed => ?_⟩
      refine ⟨ld, xd, .non, .none, by rw [PyData.shown_none]; rfl, hd, ed, by simp only [Rd], shN.2.1, shN.2.2.1, shN.2.2.2, fun H10 s20 => ⟨true, rfl, ?_⟩⟩
      refine iteF ?_
      refine ⟨_, rfl, _, rfl, (by show 2 ≤ sizeLine; decide), fun t4 ht4 => ?_⟩
      have s21 := Same.new (o := .tup [.str "later", .str wd]) ht4
      have e14 : upd H10 t4 (.tup [.str "later", .str wd]) t4 = _ := upd_same
      generalize upd H10 t4 (.tup [.str "later", .str wd]) = H11 at s21 e14 ⊢
      have sO : L2.Same H8 H11 := s19.trans (s20.trans s21)
      obtain ⟨r1, r2, r3, r4⟩ := shL H11 t4 e14
      refine ⟨.ref t4, _, rfl, r1, r2, r3, r4, ?_⟩
      have e15 := sO _ _ (s18 _ _ e13)
      refine ⟨lc, xc, .ref t3, _, rfl, sO _ _ hc, ec.mono sO, (shL H11 t3 e15).1, r2, r3, r4, fun H12 s22 => ⟨true, rfl, ?_⟩⟩
      refine iteF ?_
      have sP : L2.Same H8 H12 := sO.trans s22
      -- some, called
      refine ⟨_, rfl, _, rfl, la, xa, x, d, rfl, sP _ _ ha8, ea8.mono sP, rd4.mono (sN.trans sP), sh1, sh2, sh3, fun H13 s23 => ⟨true, rfl, ?_⟩⟩
      refine iteF ?_
      have sQ : L2.Same H8 H13 := sP.trans s23
      refine ⟨_, rfl, _, rfl, lb, xb, x, d, rfl, sQ _ _ hb8, eb8.mono sQ, rd4.mono (sN.trans sQ), sh1, sh2, sh3, fun H14 s24 => ⟨true, rfl, ?_⟩⟩
      refine iteF ?_
      have sR : L2.Same H8 H14 := sQ.trans s24
      -- the thing is changed
      refine mutate (w := wd) (x := x) (d := d) rfl rfl hw (kd.mono (sN.trans sR)) fun H15 d' kp rd' sh' => ?_
      have xal : 3 ≤ xa.length := by rw [ea.len]; simp
      have xbl : 3 ≤ xb.length := by rw [eb.len]; simp
      have ha15 := keep_long kp (sR _ _ ha8) xal
      have hb15 := keep_long kp (sR _ _ hb8) xbl
      have ea15 := (ea8.mono sR).keep kp
      have eb15 := (eb8.mono sR).keep kp
      have hl15 : H15 l = some (.lst [.ref p]) := kp _ _ ((sN.trans sR) _ _ hl4) (fun z => by cases z) (fun m p z => by cases z) fun kv z => by cases z
      refine ⟨_, rfl, _, rfl, x, d', rfl, rd', sh'.1, sh'.2.1, sh'.2.2, ?_⟩
      refine ⟨la, xa, x, d', rfl, ha15, ea15, rd', sh'.1, sh'.2.1, sh'.2.2, fun H16 s25 => ⟨true, rfl, ?_⟩⟩
      refine iteF ?_
      refine ⟨_, rfl, _, rfl, x, d', rfl, rd'.mono s25, sh'.1, sh'.2.1, sh'.2.2, ?_⟩
      refine ⟨lb, xb, x, d', rfl, s25 _ _ hb15, eb15.mono s25, rd'.mono s25, sh'.1, sh'.2.1, sh'.2.2, fun H17 s26 => ⟨true, rfl, ?_⟩⟩
      refine iteF ?_
      exact ⟨⟨_, _, _, _, _, _, _, _, _, _, rfl⟩, s26 _ _ (s25 _ _ hl15), fun z => by cases z⟩
    · rintro σ H2 ⟨⟨x1, x2, x3, x4, x5, x6, x7, x8, x9, x10, rfl⟩, _, _⟩
      refine fun a1 ha1 a2 ha2 => ⟨(by show 2 ≤ sizeLine; decide), fun r hr0 => ?_⟩
      have g1 : upd H2 a1 (exo a1 (C 26) none) a1 = some (exo a1 (C 26) none) := upd_same
      generalize upd H2 a1 (exo a1 (C 26) none) = G1 at ha2 hr0 g1 ⊢
      have g2 : upd G1 a2 (exo a2 (C 27) none) a2 = some (exo a2 (C 27) none) := upd_same
      have s2 := Same.new (o := exo a2 (C 27) none) ha2
      generalize upd G1 a2 (exo a2 (C 27) none) = G2 at hr0 g2 s2 ⊢
      have g3 : upd G2 r (.lst [.ref a1, .ref a2]) r = some (.lst [.ref a1, .ref a2]) := upd_same
      have s3 := Same.new (o := .lst [.ref a1, .ref a2]) hr0
      refine at_name (σ' := [some (.ref a), x1, x2, x3, x4, x5, x6, x7, x8, some (.ref r), x10]) rfl ?_
      generalize upd G2 r (.lst [.ref a1, .ref a2]) = G3 at g3 s3 ⊢
      have c1 : IsExo G3 a1 (C 26) := ⟨none, s3 _ _ (s2 _ _ g1), fun dd z => nomatch z⟩
      have c2 : IsExo G3 a2 (C 27) := ⟨none, s3 _ _ g2, fun dd z => nomatch z⟩
      -- their codes
      refine ⟨_, rfl, r, rfl, ⟨_, SqL.of g3⟩, fun D hD => ?_⟩
      refine lc_list (K := K) (a := r) (xs := [.ref a1, .ref a2]) (fun i H' => Grows 26 G3 H' D i ∧ i ≤ 2) ⟨Grows.start hD, by omega⟩ (fun i H' _ g => SqL.of (g.1.1 _ _ g3)) ?_ ?_
      · rintro i x H3 hi ⟨g, i2⟩
        have hx : ∃ b, x = .ref b ∧ IsExo G3 b (C (26 + i)) ∧ i < 2 := by
          match i, hi with
          | 0, h => exact ⟨a1, (Option.some.inj h).symm, c1, by omega⟩
          | 1, h => exact ⟨a2, (Option.some.inj h).symm, c2, by omega⟩
          | n + 2, h => simp at h
        obtain ⟨b, rfl, hb, i1⟩ := hx
        refine ⟨rfl, yes_if ?_⟩
        refine ⟨_, rfl, b, C (26 + i), _, rfl, hb.mono g.1, Z.i (26 + i) (by omega), fun j hj => Z.kit (26 + i) j (by omega) hj, fun q H4 s4 h4 => ?_⟩
        rw [codeOf_one (by omega)] at h4
        obtain ⟨acc, y1, y2, y3⟩ := g.step hD s4 h4 (by omega)
        exact ⟨acc, y1, y2, y3, by omega⟩
      · rintro H3 ⟨g, _⟩
        refine ⟨(by show 1 ≤ sizeLine; decide), fun q1 hq1 => ?_⟩
        have u1 : upd H3 q1 (.lst [.int 26]) q1 = some (.lst [.int 26]) := upd_same
        have t1 := Same.new (o := .lst [.int 26]) hq1
        generalize upd H3 q1 (.lst [.int 26]) = H4 at u1 t1 ⊢
        refine ⟨(by show 1 ≤ sizeLine; decide), fun q2 hq2 => ?_⟩
        have u2 : upd H4 q2 (.lst [.int 27]) q2 = some (.lst [.int 27]) := upd_same
        have t2 := Same.new (o := .lst [.int 27]) hq2
        generalize upd H4 q2 (.lst [.int 27]) = H5 at u2 t2 ⊢
        refine ⟨(by show 2 ≤ sizeLine; decide), fun q3 hq3 => ?_⟩
        have u3 : upd H5 q3 (.lst [.ref q1, .ref q2]) q3 = some (.lst [.ref q1, .ref q2]) := upd_same
        have t3 := Same.new (o := .lst [.ref q1, .ref q2]) hq3
        generalize upd H5 q3 (.lst [.ref q1, .ref q2]) = H6 at u3 t3 ⊢
        have tt : L2.Same H3 H6 := t1.trans (t2.trans t3)
        have dp2 : Dp K H6 (.ref q3) (ones 26 2) := .lst (SqL.of u3) (.cons (.lst (SqL.of (t3 _ _ (t2 _ _ u1))) (.cons (.int _) .nil)) (.cons (.lst (SqL.of (t3 _ _ u2)) (.cons (.int _) .nil)) .nil))
        have eq2 : PyData.eqv (ones 26 2) (ones 26 2) = true := by decide +kernel
        have sh2 : SeqAt.shaped (ones 26 2) = true := by decide +kernel
        refine ⟨ones 26 2, ones 26 2, g.dp tt, dp2, sh2, sh2, _, rfl, ?_⟩
        rw [eq2]
        refine iteF ?_
        have sA : L2.Same G3 H6 := g.1.trans tt
        have g3' := sA _ _ g3
        -- the base
        refine ⟨_, rfl, .inl ⟨rfl, _, SqL.of g3'⟩, fun aT haT => ?_⟩
        have v1 : upd H6 aT (exo aT T none) aT = some (exo aT T none) := upd_same
        have s6 := Same.new (o := exo aT T none) haT
        generalize upd H6 aT (exo aT T none) = H7 at v1 s6 ⊢
        have g3'' := s6 _ _ g3'
        refine ⟨r, _, _, rfl, rfl, g3'', small1000 (by simp), ?_⟩
        have w1 : upd H7 r (.lst ([.ref a1, .ref a2] ++ [.ref aT])) r = some (.lst [.ref a1, .ref a2, .ref aT]) := upd_same
        have nr : ∀ {b : Addr} {o : HO}, H7 b = some o → (∀ ys, o ≠ .lst ys) → upd H7 r (.lst ([.ref a1, .ref a2] ++ [.ref aT])) b = some o := fun {b o} e n => by
          rw [upd_ne (ne_of e g3'' (n _))]
          exact e
        have exNe : ∀ {e D0 : Addr} {dd : Option Addr} (ys : List V), exo e D0 dd ≠ .lst ys := fun ys z => by
          unfold exo at z
          cases z
        have d1 : upd H7 r (.lst ([.ref a1, .ref a2] ++ [.ref aT])) a1 = some (exo a1 (C 26) none) := nr (s6 _ _ (sA _ _ (s3 _ _ (s2 _ _ g1)))) (fun ys => exNe ys)
        have d2 : upd H7 r (.lst ([.ref a1, .ref a2] ++ [.ref aT])) a2 = some (exo a2 (C 27) none) := nr (s6 _ _ (sA _ _ (s3 _ _ g2))) (fun ys => exNe ys)
        have d3 : upd H7 r (.lst ([.ref a1, .ref a2] ++ [.ref aT])) aT = some (exo aT T none) := nr v1 (fun ys => exNe ys)
        generalize upd H7 r (.lst ([.ref a1, .ref a2] ++ [.ref aT])) = H8 at w1 d1 d2 d3 ⊢
        have f1 : IsExo H8 a1 (C 26) := ⟨none, d1, fun dd z => nomatch z⟩
        have f2 : IsExo H8 a2 (C 27) := ⟨none, d2, fun dd z => nomatch z⟩
        have f3 : IsExo H8 aT T := ⟨none, d3, fun dd z => nomatch z⟩
        refine ⟨_, rfl, r, rfl, ⟨_, SqL.of w1⟩, fun D2 hD2 => ?_⟩
        refine lc_list (K := K) (a := r) (xs := [.ref a1, .ref a2, .ref aT]) (fun i H' => L2.Same H8 H' ∧ i ≤ 3 ∧ H' D2 = some (.lst ((List.replicate i true).map V.bl))) ⟨Same.new hD2, by omega, upd_same⟩ (fun i H' _ g => SqL.of (g.1 _ _ w1)) ?_ ?_
        · rintro i x H9 hi ⟨s9, i3, h9⟩
          have hx : ∃ b D0, x = .ref b ∧ IsExo H8 b D0 ∧ ErrI K D0 ∧ PySem.W.kitOne K (.ref D0) (.ref T) = some true ∧ PySem.W.kitOne K (.ref D0) (.type "ValueError") = some true ∧ i < 3 := by
            match i, hi with
            | 0, h => exact ⟨a1, C 26, (Option.some.inj h).symm, f1, Z.i 26 (by decide), Z.up 26 (by decide), Z.ve 26 (by decide), by omega⟩
            | 1, h => exact ⟨a2, C 27, (Option.some.inj h).symm, f2, Z.i 27 (by decide), Z.up 27 (by decide), Z.ve 27 (by decide), by omega⟩
            | 2, h => exact ⟨aT, T, (Option.some.inj h).symm, f3, Z.iT, Z.upT, Z.veT, by omega⟩
            | n + 3, h => simp at h
          obtain ⟨b, D0, rfl, hb, zi, zu, zv, i2⟩ := hx
          refine ⟨rfl, yes_if ?_⟩
          refine ⟨_, rfl, b, D0, rfl, hb.mono s9, zi, zu, zv, _, h9, small1000 (by simp; omega), fun b o e => ?_, by omega, ?_⟩
          · rw [upd_ne (ne_of_none e hD2)]
            exact s9 _ _ e
          · have e : (List.replicate (i + 1) true).map V.bl = (List.replicate i true).map V.bl ++ [V.bl true] := by
              rw [List.replicate_succ', List.map_append]
              rfl
            rw [e]
            exact upd_same
        · rintro H9 ⟨s9, _, h9⟩
          refine ⟨D2, _, rfl, SqL.of h9, _, rfl, ?_⟩
          refine iteT ?_
          refine ⟨_, rfl, r, _, 2, _, rfl, rfl, SqL.of (s9 _ _ w1), atI_nat (j := 2) rfl, ?_⟩
          refine ⟨aT, T, fun _ => false, rfl, f3.mono s9, Z.iT, fun j hj => Z.kitT j hj, fun q H10 s10 h10 => ?_⟩
          rw [codeOf_none] at h10
          refine ⟨Nat.zero_le _, fun q2 hq2 => ?_⟩
          refine ⟨.list [], .list [], .lst (SqL.of ((Same.new hq2) _ _ h10)) .nil, .lst (SqL.of upd_same) .nil, rfl, rfl, ?_⟩
          have e : PyData.eqv (.list []) (.list []) = true := by decide +kernel
          rw [e]
          exact k _
end
end KT

set_option Elab.async false
set_option linter.all false
set_option maxRecDepth 100000
set_option maxHeartbeats 0
namespace KT
open PySem PySem.Spec PyProof.Rows L2
/-! ### what the top leaves, read off by names -/
def clsNames : List Str := ["InvalidTable", "InvalidKind", "InvalidKinds", "InvalidDeeds", "InvalidDeed", "InvalidTwice", "InvalidSetting", "InvalidLog", "InvalidLogs", "InvalidPlace", "InvalidCount", "InvalidRow", "InvalidTree", "InvalidMap", "InvalidMoves", "InvalidStore", "InvalidState", "InvalidMarks", "InvalidFalls", "InvalidDesk", "InvalidScript", "InvalidText", "InvalidRecord", "Unlike", "Endless", "Refused", "NothingToUndo", "NothingToRedo", "TwiceError"]
def cA (K : PySem.W.Frag) (i : Nat) : Addr := He.ga K (clsNames.getD i "")
/-- an exception class of the text -/
def oexB (K : PySem.W.Frag) (C : Addr) : Bool := match K.lookup C with
  | some ⟨.type t, _, .cls cd, sl⟩ => (match cd.mro, sl.toList with
    | .ref C2 :: bm, [_, _, _, _, some (.builtin n), _] => decide (t = "type") && (decide (C2 = C) && (decide (n = "ValueError.__new__") && (!cd.hasDel && (cd.hasDict && PySem.HandSPX.refsVE bm))))
    | _, _ => false)
  | _ => false
theorem oexB_ok {K : PySem.W.Frag} {C : Addr} (h : oexB K C = true) : ∃ nm q N bs bm sn sub ab col dd k0 k1 k2 k3 k5, K.lookup C = some (excClassObj nm q C N bs bm true sn sub ab col dd k0 k1 k2 k3 k5 "ValueError.__new__") ∧ PySem.HandSPX.refsVE bm = true := by
  unfold oexB at h
  split at h
  · rename_i t od cd sl lo
    split at h
    · rename_i C2 bm k0 k1 k2 k3 n k5 hm hs
      simp only [Bool.and_eq_true, decide_eq_true_eq, Bool.not_eq_true'] at h
      obtain ⟨rfl, rfl, rfl, h4, h5, h6⟩ := h
      obtain ⟨nm, bs, mro, ns, qn, hd, sn, sub, ab, col, del⟩ := cd
      dsimp only at hm h4 h5
      subst hm h4 h5
      have es : sl = #[k0, k1, k2, k3, some (.builtin "ValueError.__new__"), k5] := by
        obtain ⟨z⟩ := sl
        simp only at hs
        rw [hs]
      rw [es] at lo
      exact ⟨nm, qn, ns, bs, bm, sn, sub, ab, col, od, k0, k1, k2, k3, k5, lo, h6⟩
    · cases h
  · cases h
def oex2B (K : PySem.W.Frag) (C : Addr) : Bool := oexB K C && (He.eqO (PySem.W.findIn K (.ref C) "__setattr__") (some (some (.builtin "object.__setattr__"))) && (decide (PySem.W.subIn K (.ref C) (.type "BaseException") = some true) && (decide (PySem.W.typeIn K (.ref C) = some (.type "type")) && PySem.W.keepIn K (.ref C))))
theorem oex2B_ok {K : PySem.W.Frag} {C : Addr} (h : oex2B K C = true) : OexC K C := by
  unfold oex2B at h
  simp only [Bool.and_eq_true, decide_eq_true_eq] at h
  obtain ⟨h1, h2, h3, h4, h5⟩ := h
  exact ⟨oexB_ok h1, He.eqO_ok h2, h3, h4, h5⟩
def errIB (K : PySem.W.Frag) (C : Addr) : Bool := He.eqO (PySem.W.findIn K (.ref C) "__getattribute__") (some (some (.builtin "BaseException.__getattribute__"))) && (He.eqO (PySem.W.findIn K (.ref C) "__getattr__") (some none) && (decide (PySem.W.subIn K (.ref C) (.type "BaseException") = some true) &&
  ((PySem.W.clsIn K C).isSome && (He.eqO (PySem.W.findIn K (.ref C) "__class__") (some (some (.builtin "object.__class__"))) && (He.eqO (PySem.W.specialIn K (.builtin "object.__class__") "__get__") (some (some (.builtin "getset_descriptor.__get__"))) &&
  (decide (PySem.W.takesIn K (.builtin "object.__class__") = some true) && (decide (PySem.W.mroIn K C (.type "object") = some true) && PySem.W.hasDictIn K C)))))))
theorem errIB_ok {K : PySem.W.Frag} {C : Addr} (h : errIB K C = true) : ErrI K C ∧ PySem.W.hasDictIn K C = true := by
  unfold errIB at h
  simp only [Bool.and_eq_true, decide_eq_true_eq] at h
  obtain ⟨h1, h2, h3, h4, h5, h6, h7, h8, h9⟩ := h
  exact ⟨⟨He.eqO_ok h1, He.eqO_ok h2, h3, h4, He.eqO_ok h5, He.eqO_ok h6, h7, h8⟩, h9⟩
def kB (K : PySem.W.Frag) (C : Addr) (c : Value) (b : Bool) : Bool := decide (PySem.W.kitOne K (.ref C) c = some b)
def sysB (K : PySem.W.Frag) : Bool := match K.lookup sysModules with
  | some o => (match o.cls with
    | .type t => decide (t = "dict")
    | _ => false)
  | none => false
theorem sysB_ok {K : PySem.W.Frag} (h : sysB K = true) : SysK K := by
  unfold sysB at h
  split at h
  · rename_i o lo
    split at h
    · rename_i t ht
      exact ⟨o, lo, by rw [ht, of_decide_eq_true h]⟩
    · cases h
  · cases h
def veB (K : PySem.W.Frag) : Bool := match PySem.W.findCls K (.type "ValueError") (.type "type") "__init__" with
  | some (.val (.builtin n)) => decide (n = "ValueError.__init__")
  | _ => false
theorem veB_ok {K : PySem.W.Frag} (h : veB K = true) : PySem.W.findCls K (.type "ValueError") (.type "type") "__init__" = some (.val (.builtin "ValueError.__init__")) := by
  unfold veB at h
  split at h
  · rename_i n e
    rw [e, of_decide_eq_true h]
  · cases h
def initB (K : PySem.W.Frag) (C : Addr) (f : Addr) : Bool := He.eqO (PySem.W.findIn K (.ref C) "__init__") (some (some (.ref f))) && decide (PySem.W.typeIn K (.ref f) = some (.type "function"))
def myB (K : PySem.W.Frag) : Bool :=
  ((List.range 29).all fun i => oex2B K (cA K i) && errIB K (cA K i)) && (((List.range 26).all fun i => He.eqO (PySem.W.findIn K (.ref (cA K i)) "value") (some none) && initB K (cA K i) (He.fAd K (clsNames.getD i "", some "__init__"))) &&
  (((List.range 28).all fun i => (List.range 28).all fun j => kB K (cA K i) (.ref (cA K j)) (decide (j = i))) && (((List.range 28).all fun j => kB K (cA K 28) (.ref (cA K j)) false) &&
  (((List.range 29).all fun i => kB K (cA K i) (.ref (cA K 28)) true && kB K (cA K i) (.type "ValueError") true) &&
  ((initB K (cA K 26) (He.fAd K ("TwiceError", some "__init__")) && (initB K (cA K 27) (He.fAd K ("TwiceError", some "__init__")) && initB K (cA K 28) (He.fAd K ("TwiceError", some "__init__")))) && (sysB K && veB K))))))
/-! ### the Hook: the defs by names, and what is said above -/
abbrev AlX : Type := He.AlD × Bool
def frX (g : Addr → Option Obj) : PySem.W.Frag := He.frG g (sysModules :: He.asD g 5)
def obsX (fa : List He.Fa) (fn : List He.DefD) (g : Addr → Option Obj) : AlX := (He.obsD fa fn (frX g), myB (frX g))
def hookX (fa : List He.Fa) (fn : List He.DefD) : PySem.W.Hook where
  α := AlX
  obs := fun s => obsX fa fn s.heap.get?
  val := fun _ => (He.valD fn, true)
  says := fun _ h => ∃ K : PySem.W.Frag, K.In h ∧ He.SaysD fa fn K ∧ myB K = true
  of := fun _ _ e => ⟨_, He.frG_in, congrArg Prod.fst e, congrArg Prod.snd e⟩
  keeps := fun _ _ _ ⟨K, hK, c⟩ k => ⟨K, PySem.W.Frag.In.keeps hK k, c⟩
theorem obsX_eq {fa : List He.Fa} {fn : List He.DefD} {g : Addr → Option Obj} {s : Shared} (h : ∀ a, g a = s.heap.get? a) : obsX fa fn g = (hookX fa fn).obs s := by
  have e : g = s.heap.get? := funext h
  rw [e] <;> rfl
end KT

set_option Elab.async false
set_option linter.all false
set_option maxRecDepth 100000
set_option maxHeartbeats 0
namespace KT
open PySem PySem.Spec PyProof.Rows L2
def errD (x qual : Str) (i : Nat) : He.DefD := ⟨(x, some "__init__"), "__init__", qual, defArgs (inClass (top (2 + i)) 0), defBody (inClass (top (2 + i)) 0), defScope (inClass (top (2 + i)) 0), [.non], []⟩
def twD : He.DefD := ⟨("TwiceError", some "__init__"), "__init__", "TwiceError.__init__", defArgs sTwice, defBody sTwice, defScope sTwice, [], []⟩
def lawD (x : Str) (st : Stmt) : He.DefD := ⟨(x, none), x, x, defArgs st, defBody st, defScope st, [], []⟩
def fn : List He.DefD := [errD "InvalidTable" "InvalidTable.__init__" 0,
  errD "InvalidKind" "InvalidKind.__init__" 1,
  errD "InvalidKinds" "InvalidKinds.__init__" 2,
  errD "InvalidDeeds" "InvalidDeeds.__init__" 3,
  errD "InvalidDeed" "InvalidDeed.__init__" 4,
  errD "InvalidTwice" "InvalidTwice.__init__" 5,
  errD "InvalidSetting" "InvalidSetting.__init__" 6,
  errD "InvalidLog" "InvalidLog.__init__" 7,
  errD "InvalidLogs" "InvalidLogs.__init__" 8,
  errD "InvalidPlace" "InvalidPlace.__init__" 9,
  errD "InvalidCount" "InvalidCount.__init__" 10,
  errD "InvalidRow" "InvalidRow.__init__" 11,
  errD "InvalidTree" "InvalidTree.__init__" 12,
  errD "InvalidMap" "InvalidMap.__init__" 13,
  errD "InvalidMoves" "InvalidMoves.__init__" 14,
  errD "InvalidStore" "InvalidStore.__init__" 15,
  errD "InvalidState" "InvalidState.__init__" 16,
  errD "InvalidMarks" "InvalidMarks.__init__" 17,
  errD "InvalidFalls" "InvalidFalls.__init__" 18,
  errD "InvalidDesk" "InvalidDesk.__init__" 19,
  errD "InvalidScript" "InvalidScript.__init__" 20,
  errD "InvalidText" "InvalidText.__init__" 21,
  errD "InvalidRecord" "InvalidRecord.__init__" 22,
  errD "Unlike" "Unlike.__init__" 23,
  errD "Endless" "Endless.__init__" 24,
  errD "Refused" "Refused.__init__" 25,
  twD,
  lawD "_law_purse" sPurse,
  lawD "_law_mixed" sMixed,
  lawD "_law_draw" sDraw,
  lawD "_law_purses" sPurses,
  lawD "_law_one_of" sOneOf,
  lawD "_law_word" sWord,
  lawD "_law_first" sFirst,
  lawD "_law_called" sCalled,
  lawD "_law_bare" sBare,
  lawD "_law_code" sCode,
  lawD "_law_is_error" sIsErr,
  lawD "_law_right" sRight,
  lawD "law" sLaw]
def fa : List He.Fa := [.glo "InvalidTable", .glo "InvalidKind", .glo "InvalidKinds", .glo "InvalidDeeds", .glo "InvalidDeed", .glo "InvalidTwice", .glo "InvalidSetting", .glo "InvalidLog", .glo "InvalidLogs", .glo "InvalidPlace", .glo "InvalidCount", .glo "InvalidRow", .glo "InvalidTree", .glo "InvalidMap", .glo "InvalidMoves", .glo "InvalidStore", .glo "InvalidState", .glo "InvalidMarks", .glo "InvalidFalls", .glo "InvalidDesk", .glo "InvalidScript", .glo "InvalidText", .glo "InvalidRecord", .glo "Unlike", .glo "Endless"] ++ [.glo "Refused", .glo "NothingToUndo", .glo "NothingToRedo", .glo "TwiceError", .glo "_law_purse", .glo "_law_mixed", .glo "_law_draw", .glo "_law_purses", .glo "_law_one_of", .glo "_law_word", .glo "_law_first", .glo "_law_called", .glo "_law_bare", .glo "_law_code", .glo "_law_is_error", .glo "_law_right", .glo "law", .free "int", .free "max", .free "min", .free "sum", .free "len", .free "range", .free "isinstance", .free "ValueError"] ++ [.free "repr", .free "all", .free "list", .free "dict", .free "tuple"]
abbrev R : PySem.W.OpenRow := PySem.W.OpenLaw.row PySem.Challenge.rw_kindtwice_k01_errors_made
abbrev hk : PySem.W.Hook := hookX fa fn
def ob (s : PySem.W.SharedT) : AlX := obsX fa fn (HandSHeadRun.getT s)
theorem ob_eq (s : PySem.W.SharedT) : ob s = hk.obs s.abs := obsX_eq (HandSHeadRun.getT_eq s)
def loose1 : List Str := ["TwiceError", "InvalidTable", "InvalidKind", "InvalidKinds", "InvalidDeeds", "InvalidDeed", "InvalidTwice", "InvalidSetting", "InvalidLog", "InvalidLogs", "InvalidPlace", "InvalidCount", "InvalidRow", "InvalidTree", "InvalidMap", "InvalidMoves", "InvalidStore", "InvalidState", "InvalidMarks", "InvalidFalls", "InvalidDesk", "InvalidScript", "InvalidText", "InvalidRecord", "Unlike", "Endless", "Refused"]
def loose2 : List Str := ["NothingToUndo", "NothingToRedo", "_law_purse", "_law_mixed", "_law_draw", "_law_purses", "_law_one_of", "_law_word", "_law_first", "_law_called", "_law_bare", "_law_code", "_law_is_error", "_law_right"]
abbrev loose : List Str := loose1 ++ loose2
theorem run (w : World) : HandSHeadRun.RunEq R (PySem.W.view R.prog [43]) hk ob 9000 loose w := by
  intro os
  kernel_rfl
end KT

set_option Elab.async false
set_option linter.all false
set_option maxRecDepth 100000
set_option maxHeartbeats 0
namespace KT
open PySem PySem.Spec PyProof.Rows L2
section
variable {K : PySem.W.Frag}
theorem err_case : ∀ i, i < 26 → ∃ (x qual : Str) (q1 q2 q3 p1 p2 p3 p4 : Pos), errNames[i]? = some x ∧ clsNames.getD i "" = x ∧ fa[i]? = some (.glo x) ∧ fn[i]? = some ⟨(x, some "__init__"), "__init__", qual, eArgs q1 q2 q3, eBody p1 p2 p3 p4, eSc, [.non], []⟩
  | 0, _ => ⟨_, _, _, _, _, _, _, _, _, rfl, rfl, rfl, rfl⟩
  | 1, _ => ⟨_, _, _, _, _, _, _, _, _, rfl, rfl, rfl, rfl⟩
  | 2, _ => ⟨_, _, _, _, _, _, _, _, _, rfl, rfl, rfl, rfl⟩
  | 3, _ => ⟨_, _, _, _, _, _, _, _, _, rfl, rfl, rfl, rfl⟩
  | 4, _ => ⟨_, _, _, _, _, _, _, _, _, rfl, rfl, rfl, rfl⟩
  | 5, _ => ⟨_, _, _, _, _, _, _, _, _, rfl, rfl, rfl, rfl⟩
  | 6, _ => ⟨_, _, _, _, _, _, _, _, _, rfl, rfl, rfl, rfl⟩
  | 7, _ => ⟨_, _, _, _, _, _, _, _, _, rfl, rfl, rfl, rfl⟩
  | 8, _ => ⟨_, _, _, _, _, _, _, _, _, rfl, rfl, rfl, rfl⟩
  | 9, _ => ⟨_, _, _, _, _, _, _, _, _, rfl, rfl, rfl, rfl⟩
  | 10, _ => ⟨_, _, _, _, _, _, _, _, _, rfl, rfl, rfl, rfl⟩
  | 11, _ => ⟨_, _, _, _, _, _, _, _, _, rfl, rfl, rfl, rfl⟩
  | 12, _ => ⟨_, _, _, _, _, _, _, _, _, rfl, rfl, rfl, rfl⟩
  | 13, _ => ⟨_, _, _, _, _, _, _, _, _, rfl, rfl, rfl, rfl⟩
  | 14, _ => ⟨_, _, _, _, _, _, _, _, _, rfl, rfl, rfl, rfl⟩
  | 15, _ => ⟨_, _, _, _, _, _, _, _, _, rfl, rfl, rfl, rfl⟩
  | 16, _ => ⟨_, _, _, _, _, _, _, _, _, rfl, rfl, rfl, rfl⟩
  | 17, _ => ⟨_, _, _, _, _, _, _, _, _, rfl, rfl, rfl, rfl⟩
  | 18, _ => ⟨_, _, _, _, _, _, _, _, _, rfl, rfl, rfl, rfl⟩
  | 19, _ => ⟨_, _, _, _, _, _, _, _, _, rfl, rfl, rfl, rfl⟩
  | 20, _ => ⟨_, _, _, _, _, _, _, _, _, rfl, rfl, rfl, rfl⟩
  | 21, _ => ⟨_, _, _, _, _, _, _, _, _, rfl, rfl, rfl, rfl⟩
  | 22, _ => ⟨_, _, _, _, _, _, _, _, _, rfl, rfl, rfl, rfl⟩
  | 23, _ => ⟨_, _, _, _, _, _, _, _, _, rfl, rfl, rfl, rfl⟩
  | 24, _ => ⟨_, _, _, _, _, _, _, _, _, rfl, rfl, rfl, rfl⟩
  | 25, _ => ⟨_, _, _, _, _, _, _, _, _, rfl, rfl, rfl, rfl⟩
  | n + 26, h => absurd h (by omega)
theorem all_range {n : Nat} {f : Nat → Bool} (h : ((List.range n).all f) = true) {i : Nat} (hi : i < n) : f i = true := List.all_eq_true.mp h i (List.mem_range.mpr hi)
theorem initB_ok {C f : Addr} (h : initB K C f = true) : PySem.W.findIn K (.ref C) "__init__" = some (some (.ref f)) ∧ PySem.W.typeIn K (.ref f) = some (.type "function") := by
  unfold initB at h
  simp only [Bool.and_eq_true, decide_eq_true_eq] at h
  exact ⟨He.eqO_ok h.1, h.2⟩
theorem kB_ok {C : Addr} {c : Value} {b : Bool} (h : kB K C c b = true) : PySem.W.kitOne K (.ref C) c = some b := of_decide_eq_true h
/-- a def of no defaults of the text, as Fun -/
theorem fun_of {x qual : Str} {st : Stmt} {f : Addr} {fd : FuncData} (F : FunD K x qual (defArgs st) (defBody st) (defScope st) [] [] f fd) : Fun K x qual st f fd := by
  obtain ⟨oc, od, dV, kV, doc, pm, an, cdv, ct, osl, e, lk, hcd, hD, _⟩ := F.ex
  rcases hD with ⟨_, rfl⟩ | ⟨z, _⟩
  · exact ⟨⟨oc, od, kV, doc, pm, an, cdv, ct, osl, e, lk, hcd⟩, F.kp⟩
  · exact absurd rfl z
end
theorem facts {P : Program} {w : World} {K : PySem.W.Frag} {h : Heap} {mg : Str → Option Value} {f : Addr} (X : K.In h) (G : h.Ns mainGlobals mg) (hfa : mg ("law" : Str) = some (.ref f)) (c : He.SaysD fa fn K) (m : myB K = true) :
    ∃ fd : FuncData, (∀ (s : Shared) (v : Value), BindsTo s fd ⟨[v], []⟩ [("_law_script", v)]) ∧ ∀ base : Heap, K.In base → base.Ns mainGlobals mg → GnOk P w K mg base 4 f fd ["_law_script"] (spLaw K) := by
  unfold myB at m
  simp only [Bool.and_eq_true] at m
  obtain ⟨m1, m2, m3, m4, m5, ⟨m6, m7, m8⟩, m9, m10⟩ := m
  have S : SysK K := sysB_ok m9
  have oex : ∀ i, i < 29 → OexC K (cA K i) := fun i hi => oex2B_ok (Bool.and_eq_true_iff.mp (all_range m1 hi)).1
  have eI : ∀ i, i < 29 → ErrI K (cA K i) ∧ PySem.W.hasDictIn K (cA K i) = true := fun i hi => errIB_ok (Bool.and_eq_true_iff.mp (all_range m1 hi)).2
  have no : ∀ i, i < 26 → PySem.W.findIn K (.ref (cA K i)) "value" = some none := fun i hi => He.eqO_ok (Bool.and_eq_true_iff.mp (all_range m2 hi)).1
  have Z : Kits K (cA K) (cA K 28) := {
    i := fun i hi => (eI i (by omega)).1
    iT := (eI 28 (by decide)).1
    f := fun i hi => ⟨(eI i (by omega)).1.ga, (eI i (by omega)).1.gg, (eI i (by omega)).1.ex, (eI i (by omega)).2, no i hi⟩
    kit := fun i j hi hj => kB_ok (all_range (all_range m3 hi) hj)
    kitT := fun j hj => kB_ok (all_range m4 hj)
    up := fun i hi => kB_ok (Bool.and_eq_true_iff.mp (all_range m5 (by omega : i < 29))).1
    upT := kB_ok (Bool.and_eq_true_iff.mp (all_range m5 (by decide : 28 < 29))).1
    ve := fun i hi => kB_ok (Bool.and_eq_true_iff.mp (all_range m5 (by omega : i < 29))).2
    veT := kB_ok (Bool.and_eq_true_iff.mp (all_range m5 (by decide : 28 < 29))).2 }
  have fr : ∀ (i : Nat) (x : Str), fa[i]? = some (.free x) → mg x = none := fun i x e => He.free_ok X G (c.fact i e)
  have gl : ∀ (i : Nat) (x : Str), fa[i]? = some (.glo x) → mg x = some (.ref (He.ga K x)) := fun i x e => He.glo_ok X G (c.fact i e)
  have B : Blt mg := ⟨fr 42 _ rfl, fr 43 _ rfl, fr 44 _ rfl, fr 45 _ rfl, fr 46 _ rfl, fr 47 _ rfl⟩
  have B2 : Blt2 mg := ⟨fr 48 _ rfl, fr 49 _ rfl, fr 50 _ rfl, fr 51 _ rfl, fr 52 _ rfl, fr 53 _ rfl, fr 54 _ rfl⟩
  obtain ⟨fdT, FT0⟩ := c.def_ 26 (d := twD) rfl
  have FT : Fun K "__init__" "TwiceError.__init__" sTwice (He.fAd K ("TwiceError", some "__init__")) fdT := fun_of FT0
  have bT : ∀ (s : Shared) (self : Value), K.In s.heap → BindsTo s fdT ⟨[self], []⟩ [("self", self)] := fun s self _ => FunD.bindsA (ps := ["self"]) FT0 (fun _ _ _ _ _ _ us hl => match us, hl with | [_], _ => rfl) s [self] rfl
  obtain ⟨fd0, D0⟩ := c.def_ 27 (d := lawD "_law_purse" sPurse) rfl
  have b0 : Binds K fd0 ["_law_script", "_law_at"] [] := FunD.bindsN D0 fun _ _ _ _ _ _ us hl => match us, hl with | [_, _], _ => rfl
  have g0 := gl 29 "_law_purse" rfl
  have k0 : PySem.W.keepIn K (.ref (He.fAd K ("_law_purse", none))) = true := D0.kp
  obtain ⟨fd1, D1⟩ := c.def_ 28 (d := lawD "_law_mixed" sMixed) rfl
  have b1 : Binds K fd1 ["_law_seed", "_law_spin", "_law_at"] [] := FunD.bindsN D1 fun _ _ _ _ _ _ us hl => match us, hl with | [_, _, _], _ => rfl
  have g1 := gl 30 "_law_mixed" rfl
  have k1 : PySem.W.keepIn K (.ref (He.fAd K ("_law_mixed", none))) = true := D1.kp
  obtain ⟨fd2, D2⟩ := c.def_ 29 (d := lawD "_law_draw" sDraw) rfl
  have b2 : Binds K fd2 ["_law_purse_here", "_law_many"] [] := FunD.bindsN D2 fun _ _ _ _ _ _ us hl => match us, hl with | [_, _], _ => rfl
  have g2 := gl 31 "_law_draw" rfl
  have k2 : PySem.W.keepIn K (.ref (He.fAd K ("_law_draw", none))) = true := D2.kp
  obtain ⟨fd3, D3⟩ := c.def_ 30 (d := lawD "_law_purses" sPurses) rfl
  have b3 : Binds K fd3 ["_law_script", "_law_few"] [] := FunD.bindsN D3 fun _ _ _ _ _ _ us hl => match us, hl with | [_, _], _ => rfl
  have g3 := gl 32 "_law_purses" rfl
  have k3 : PySem.W.keepIn K (.ref (He.fAd K ("_law_purses", none))) = true := D3.kp
  obtain ⟨fd4, D4⟩ := c.def_ 31 (d := lawD "_law_one_of" sOneOf) rfl
  have b4 : Binds K fd4 ["_law_purse_here", "_law_some"] [] := FunD.bindsN D4 fun _ _ _ _ _ _ us hl => match us, hl with | [_, _], _ => rfl
  have g4 := gl 33 "_law_one_of" rfl
  have k4 : PySem.W.keepIn K (.ref (He.fAd K ("_law_one_of", none))) = true := D4.kp
  obtain ⟨fd5, D5⟩ := c.def_ 32 (d := lawD "_law_word" sWord) rfl
  have b5 : Binds K fd5 ["_law_purse_here"] [] := FunD.bindsN D5 fun _ _ _ _ _ _ us hl => match us, hl with | [_], _ => rfl
  have g5 := gl 34 "_law_word" rfl
  have k5 : PySem.W.keepIn K (.ref (He.fAd K ("_law_word", none))) = true := D5.kp
  obtain ⟨fd6, D6⟩ := c.def_ 33 (d := lawD "_law_first" sFirst) rfl
  have b6 : Binds K fd6 ["_law_thing"] [] := FunD.bindsN D6 fun _ _ _ _ _ _ us hl => match us, hl with | [_], _ => rfl
  have g6 := gl 35 "_law_first" rfl
  have k6 : PySem.W.keepIn K (.ref (He.fAd K ("_law_first", none))) = true := D6.kp
  obtain ⟨fd7, D7⟩ := c.def_ 34 (d := lawD "_law_called" sCalled) rfl
  have b7 : Binds K fd7 ["_law_thing"] [] := FunD.bindsN D7 fun _ _ _ _ _ _ us hl => match us, hl with | [_], _ => rfl
  have g7 := gl 36 "_law_called" rfl
  have k7 : PySem.W.keepIn K (.ref (He.fAd K ("_law_called", none))) = true := D7.kp
  obtain ⟨fd8, D8⟩ := c.def_ 35 (d := lawD "_law_bare" sBare) rfl
  have b8 : Binds K fd8 ([] : List Str) [] := FunD.bindsN D8 fun _ _ _ _ _ _ us hl => match us, hl with | [], _ => rfl
  have g8 := gl 37 "_law_bare" rfl
  have k8 : PySem.W.keepIn K (.ref (He.fAd K ("_law_bare", none))) = true := D8.kp
  obtain ⟨fd9, D9⟩ := c.def_ 36 (d := lawD "_law_code" sCode) rfl
  have b9 : Binds K fd9 ["_law_error"] [] := FunD.bindsN D9 fun _ _ _ _ _ _ us hl => match us, hl with | [_], _ => rfl
  have g9 := gl 38 "_law_code" rfl
  have k9 : PySem.W.keepIn K (.ref (He.fAd K ("_law_code", none))) = true := D9.kp
  obtain ⟨fd10, D10⟩ := c.def_ 37 (d := lawD "_law_is_error" sIsErr) rfl
  have b10 : Binds K fd10 ["_law_error"] [] := FunD.bindsN D10 fun _ _ _ _ _ _ us hl => match us, hl with | [_], _ => rfl
  have g10 := gl 39 "_law_is_error" rfl
  have k10 : PySem.W.keepIn K (.ref (He.fAd K ("_law_is_error", none))) = true := D10.kp
  obtain ⟨fd11, D11⟩ := c.def_ 38 (d := lawD "_law_right" sRight) rfl
  have b11 : Binds K fd11 ["_law_some", "_law_noted"] [] := FunD.bindsN D11 fun _ _ _ _ _ _ us hl => match us, hl with | [_, _], _ => rfl
  have g11 := gl 40 "_law_right" rfl
  have k11 : PySem.W.keepIn K (.ref (He.fAd K ("_law_right", none))) = true := D11.kp
  obtain ⟨fd12, D12⟩ := c.def_ 39 (d := lawD "law" sLaw) rfl
  have bL := FunD.bindsA (ps := ["_law_script"]) D12 fun _ _ _ _ _ _ us hl => match us, hl with | [_], _ => rfl
  have e := hfa.symm.trans (gl 41 "law" rfl)
  cases e
  refine ⟨fd12, fun s v => bL s [v] rfl, fun base iB nB => ?_⟩
  have hTw : FnOk P w K mg base CX0 1 (He.fAd K ("TwiceError", some "__init__")) fdT ["self"] (spTI K) := ok_tinit FT B2 (veB_ok m10)
  have E : Errs P w K mg base (cA K) := by
    refine ⟨fun i x hx => ?_⟩
    have hi : i < 26 := by
      by_cases z : i < 26
      · exact z
      · rw [List.getElem?_eq_none (by show 26 ≤ i; omega)] at hx
        cases hx
    obtain ⟨x2, qual, q1, q2, q3, p1, p2, p3, p4, e1, e2, e3, e4⟩ := err_case i hi
    rw [e1] at hx
    cases hx
    obtain ⟨fd, F⟩ := c.def_ i e4
    have F2 : FunD K "__init__" qual (eArgs q1 q2 q3) (eBody p1 p2 p3 p4) eSc [.non] [] (He.fAd K (x, some "__init__")) fd := F
    obtain ⟨n1, n2⟩ := initB_ok (Bool.and_eq_true_iff.mp (all_range m2 hi)).2
    rw [e2] at n1 n2
    obtain ⟨w1, w2, w3⟩ := einit_binds F2
    have mx : mg x = some (.ref (cA K i)) := by
      unfold cA
      rw [e2]
      exact gl i x e3
    exact ⟨oex i (by omega), no i hi, mx, ⟨_, fd, n1, n2, ok_einit F2, w1, w2, w3⟩⟩
  have Z26 : TwiC P w K mg base "NothingToUndo" (cA K 26) := ⟨oex 26 (by decide), gl 26 "NothingToUndo" rfl, ⟨_, fdT, (initB_ok m6).1, (initB_ok m6).2, hTw, bT⟩⟩
  have Z27 : TwiC P w K mg base "NothingToRedo" (cA K 27) := ⟨oex 27 (by decide), gl 27 "NothingToRedo" rfl, ⟨_, fdT, (initB_ok m7).1, (initB_ok m7).2, hTw, bT⟩⟩
  have ZT : TwiC P w K mg base "TwiceError" (cA K 28) := ⟨oex 28 (by decide), gl 28 "TwiceError" rfl, ⟨_, fdT, (initB_ok m8).1, (initB_ok m8).2, hTw, bT⟩⟩
  have M28 : ∀ (i : Nat) (x : Str), names28[i]? = some x → mg x = some (.ref (cA K i)) := by
    intro i x hx
    by_cases hi : i < 26
    · have hx2 : errNames[i]? = some x := by
        unfold names28 at hx
        rw [List.getElem?_append_left (by show i < 26; exact hi)] at hx
        exact hx
      exact (E.e i x hx2).m
    · match i, hx with
      | 26, hx =>
        obtain rfl : x = "NothingToUndo" := (Option.some.inj hx).symm
        exact Z26.m
      | 27, hx =>
        obtain rfl : x = "NothingToRedo" := (Option.some.inj hx).symm
        exact Z27.m
      | n + 28, hx =>
        rw [List.getElem?_eq_none (by show 28 ≤ n + 28; omega)] at hx
        cases hx
  have Pu0 : Cee P w K mg base 1 "_law_purse" _ (spPurse K) := ⟨_, fd0, ok_purse (fun_of D0) B, g0, k0, b0⟩
  have Mi : Cee P w K mg base 1 "_law_mixed" _ spMixed := ⟨_, fd1, ok_mixed (fun_of D1) B, g1, k1, b1⟩
  have Dr : Cee P w K mg base 2 "_law_draw" _ spDraw := ⟨_, fd2, ok_draw (fun_of D2) B Mi, g2, k2, b2⟩
  have Pu : Cee P w K mg base 2 "_law_purses" _ (spPurses K) := ⟨_, fd3, ok_purses (fun_of D3) B Pu0, g3, k3, b3⟩
  have On : Cee P w K mg base 3 "_law_one_of" _ spOneOf := ⟨_, fd4, ok_oneof (fun_of D4) B Dr, g4, k4, b4⟩
  have Wo : Cee P w K mg base 3 "_law_word" _ spWord := ⟨_, fd5, ok_word (fun_of D5) B Dr, g5, k5, b5⟩
  have Fi : Cee P w K mg base 3 "_law_first" _ (spRow (all26 (cA K))) := ⟨_, fd6, ok_First (fun_of D6) E, g6, k6, b6⟩
  have Ca : Cee P w K mg base 3 "_law_called" _ (spRow (all26 (cA K))) := ⟨_, fd7, ok_Called (fun_of D7) E, g7, k7, b7⟩
  have Ba : Cee P w K mg base 3 "_law_bare" _ (spRow0 (all26 (cA K))) := ⟨_, fd8, ok_Bare (fun_of D8) E, g8, k8, b8⟩
  have Co : Cee P w K mg base 1 "_law_code" _ (spCode K (cA K)) := ⟨_, fd9, ok_code (fun_of D9) B B2 M28, g9, k9, b9⟩
  have Is : Cee P w K mg base 1 "_law_is_error" _ (spIsErr K (cA K 28)) := ⟨_, fd10, ok_iserr (fun_of D10) B2 ZT.m, g10, k10, b10⟩
  have Ri : Gee P w K mg base 2 "_law_right" _ (spRight (cA K)) := ⟨_, fd11, ok_right (fun_of D11) B B2 Z S Co Is, g11, k11, b11⟩
  exact ok_law (fun_of D12) B B2 Z S Pu Wo On Fi Ca Ba Co Is Ri Z26 Z27 ZT
end KT
open PySem PySem.W PySem.Calls PyProof.Rows
set_option maxRecDepth 100000 in
set_option maxHeartbeats 0 in
theorem PySem.Challenge.cw_kindtwice_k01_errors_made_holds : PySem.Challenge.rw_kindtwice_k01_errors_made.Holds := by
  w_on; o_law
  refine HandSHeadRun.head_any (r := OpenLaw.row PySem.Challenge.rw_kindtwice_k01_errors_made) (q := view (OpenLaw.row PySem.Challenge.rw_kindtwice_k01_errors_made).prog [43]) (H := KT.hk) (ob := KT.ob) (M := 9000) (loose := KT.loose) (d := HandSHeadRun.topDef (OpenLaw.row PySem.Challenge.rw_kindtwice_k01_errors_made).prog 43) (kwd := []) KT.ob_eq
    (by kernel_rfl) (fun s => by kernel_rfl) KT.run (by kernel_rfl) (by kernel_rfl) (by kernel_rfl) (by rfl) (by first | assumption | decide +kernel) (by decide +kernel) ⟨rfl, rfl, rfl, rfl, rfl, by decide +kernel⟩ ?hw ?hc
  case hw => w_witness2
  case hc =>
    refine KT.walk_g (l := PySem.Challenge.rw_kindtwice_k01_errors_made) (n := 63) (k := 4) (x := "_law_script") rfl (by decide) (by kernel_rfl) ⟨rfl, by decide, by decide⟩ ?F
    intro w mg fa h Y G hmg0
    obtain ⟨K, KX, c, m⟩ := Y
    have hmg : mg ("law" : PySem.Str) = some (.ref fa) := by
      have e : (HandSHeadRun.topDef (OpenLaw.row PySem.Challenge.rw_kindtwice_k01_errors_made).prog 43).name = ("law" : PySem.Str) := by kernel_rfl
      rw [← e]
      exact hmg0
    obtain ⟨fd, hb, hF⟩ := KT.facts (P := (PySem.Challenge.rw_kindtwice_k01_errors_made).prog) (w := w) KX G hmg c m
    exact ⟨K, fd, KT.spLaw K, KX, hb, fun H a ns hl hS _ => ⟨a, ns, rfl, hS, hl, fun _ => rfl⟩, hF⟩
#print axioms PySem.Challenge.cw_kindtwice_k01_errors_made_holds
