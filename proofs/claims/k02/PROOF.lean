import PyProof.Rows.All
import Wide.All
import OpenK.AllK
import Wide.FinOn
import HandS.ForMost
import HandS.ForExc
import HandS.IsInst
import HandS.Sort
import HandS.SortKw
import HandS.Flow
import HandS.Strs
import HandS.Defaults
import HandS.ExcInit
import HandS.ExcValue
import HandS.AnyAll
import HandS.Walk
import HandS.WideBits
import HandS.RaiseMore
import HandS.SlotsOwn
import KE.KOpsOwn
import KE.GoesEnum
import HandS.HeadNt
import HandS.HeadEnd
import HandS.Head2
import HandS.DictComp
import HandS.Style
import KE.KDictPairs
import KE.KEqDict
import HandS.TupAny
import PySem.Challenge.RW_deedmeanings_k02_says_told
set_option linter.all false
set_option maxRecDepth 100000
namespace Cm
open PySem PySem.Spec PyProof.Rows L2
def top (i : Nat) : Stmt := PySem.Challenge.pw_deedmeanings_k02_says_told.main.body.getD i (.Pass ⟨0, 0, 0, 0⟩)
def inner (s : Stmt) (i : Nat) : Stmt := match s with | .ClassDef (body := b) .. => b.getD i (.Pass ⟨0, 0, 0, 0⟩) | _ => .Pass ⟨0, 0, 0, 0⟩
abbrev s__wall : Stmt := top 0
abbrev m_BadName_init : Stmt := inner (top 3) 0
abbrev m_BadTruth_init : Stmt := inner (top 4) 0
abbrev s_is_name : Stmt := top 8
abbrev s_ascending : Stmt := top 9
abbrev s_merged : Stmt := top 10
abbrev s_mask_of : Stmt := top 11
abbrev m_Say_init : Stmt := inner (top 13) 0
abbrev m_Say_test : Stmt := inner (top 13) 1
abbrev m_Say_yes : Stmt := inner (top 13) 2
abbrev m_Say_no : Stmt := inner (top 13) 3
abbrev m_Say_of_terms : Stmt := inner (top 13) 4
abbrev m_Say_tests : Stmt := inner (top 13) 5
abbrev m_Say_holds : Stmt := inner (top 13) 6
abbrev m_Say_given : Stmt := inner (top 13) 7
abbrev m_Say_some : Stmt := inner (top 13) 8
abbrev m_Say_every : Stmt := inner (top 13) 9
abbrev m_Say_terms : Stmt := inner (top 13) 10
abbrev m_Say_over : Stmt := inner (top 13) 11
abbrev m_Say_and : Stmt := inner (top 13) 12
abbrev m_Say_or : Stmt := inner (top 13) 13
abbrev m_Say_xor : Stmt := inner (top 13) 14
abbrev m_Say_invert : Stmt := inner (top 13) 15
abbrev m_Say_le : Stmt := inner (top 13) 16
abbrev m_Say_lt : Stmt := inner (top 13) 17
abbrev m_Say_eq : Stmt := inner (top 13) 18
abbrev s_everywhere : Stmt := top 14
abbrev s_without : Stmt := top 15
abbrev s_settled : Stmt := top 16
abbrev s_makes_difference : Stmt := top 17
abbrev s_table_over : Stmt := top 18
abbrev s_l_spring : Stmt := top 20
abbrev s_l_draw : Stmt := top 21
abbrev s_l_pick : Stmt := top 22
abbrev s_l_mixed : Stmt := top 23
abbrev s_l_same : Stmt := top 24
abbrev s_l_names : Stmt := top 25
abbrev s_l_tree : Stmt := top 26
abbrev s_l_holds : Stmt := top 27
abbrev s_l_say : Stmt := top 28
abbrev s_l_choices : Stmt := top 29
abbrev s_l_tests : Stmt := top 30
abbrev s_l_told_right : Stmt := top 31
abbrev s_law : Stmt := top 32
end Cm

set_option Elab.async false
set_option linter.all false
set_option maxRecDepth 100000
set_option maxHeartbeats 8000000
namespace Cm
open PySem PySem.Spec PyProof.Rows L2
/-! ### the spring of drawn numbers -/
/-- a spring stands at p, its list of numbers at l; it was drawn from n times -/
def Spr (H : Hp) (p l : Addr) (n : Nat) : Prop := ∃ (ms : List Int) (a st : Int), p ≠ l ∧ H p = some (.lst [.ref l, .int a, .int (n : Int), .int st]) ∧ H l = some (.lst (ms.map V.int)) ∧
  ms.length ≤ 63 ∧ 0 ≤ a ∧ 0 ≤ st ∧ st < 2147483647
/-- the law itself -/
def spLaw (K : PySem.W.Frag) : Sp := fun vs H Q _ => ∃ (a : Addr) (ns : List Int), vs = [.ref a] ∧ SqL K H a (ns.map V.int) ∧ ns.length ≤ 63 ∧ ∀ H', Q (.bl true) H'
def spSpring (K : PySem.W.Frag) : Sp := fun vs H Q _ => ∃ (a : Addr) (ns : List Int), vs = [.ref a] ∧ SqL K H a (ns.map V.int) ∧ ns.length ≤ 63 ∧
  ∀ p l H', H p = none → H l = none → Spr H' p l 0 → Same H H' → Q (.ref p) H'
def spDraw : Sp := fun vs H Q _ => ∃ (p l : Addr) (n : Nat) (m : Int), vs = [.ref p, .int m] ∧ Spr H p l n ∧ n ≤ 1000000 ∧ 0 < m ∧ m < 1000000 ∧
  ∀ k H', 0 ≤ k → k < m → Spr H' p l (n + 1) → (∀ b o, H b = some o → b ≠ p → b ≠ l → H' b = some o) → Q (.int k) H'
/-- what stays where only a spring turns -/
def Same2 (p l : Addr) (H H' : Hp) : Prop := ∀ b o, H b = some o → b ≠ p → b ≠ l → H' b = some o
theorem Same2.refl (p l : Addr) (H : Hp) : Same2 p l H H := fun _ _ e _ _ => e
theorem Same2.trans {p l : Addr} {H H1 H2 : Hp} (a : Same2 p l H H1) (b : Same2 p l H1 H2) : Same2 p l H H2 := fun c o e n1 n2 => b c o (a c o e n1 n2) n1 n2
theorem Same2.of {p l : Addr} {H H' : Hp} (a : Same H H') : Same2 p l H H' := fun c o e _ _ => a c o e
theorem Same2.updp {p l : Addr} {H : Hp} {o : HO} : Same2 p l H (upd H p o) := fun c u e n1 _ => by rw [upd_ne n1]; exact e
theorem Same2.updl {p l : Addr} {H : Hp} {o : HO} : Same2 p l H (upd H l o) := fun c u e _ n2 => by rw [upd_ne n2]; exact e
section
variable {P : Program} {w : World} {K : PySem.W.Frag} {mg : Str → Option Value} {base : Heap}
theorem scSpring : FnScope ["_law_script"] ["_law_script"] (defScope s_l_spring) := ⟨rfl, rfl, rfl, by decide +kernel, rfl, by decide +kernel, by decide +kernel⟩
theorem ok_spring {f : Addr} {fd : FuncData} (F : Fun K "_law_spring" "_law_spring" s_l_spring f fd) (ml : mg "list" = none) : FnOk P w K mg base CX0 1 f fd ["_law_script"] (spSpring K) := by
  refine F.ok scSpring (fun vs H Q E h => ?_) (fun cdv A outer s H vs Q E hr h => ?_)
  · obtain ⟨a, ns, rfl, _⟩ := h
    rfl
  · obtain ⟨a, ns, rfl, hS, hl, k⟩ := h
    refine ⟨_, pss_one (ps_ret (pe_lst (pa_cons (pe_callTy call_list_of (by rfl) ml (by decide +kernel) (pa_cons (pv 0) pa_nil)) (pa_cons pe_int (pa_cons pe_int (pa_cons pe_int pa_nil)))))), ?_⟩
    refine ⟨_, rfl, a, _, rfl, .inl hS, fun l hl' => ?_⟩
    refine ⟨(by show 4 ≤ sizeLine; decide), fun p hp => ?_⟩
    have npl : p ≠ l := fun e => by
      rw [e, upd_same] at hp
      cases hp
    have hp0 : H p = none := by
      rw [upd_ne npl] at hp
      exact hp
    refine k p l _ hp0 hl' ⟨ns, 0, 7, npl, upd_same, ?_, hl, by decide, by decide, by decide⟩ fun b o e => ?_
    · rw [upd_ne npl.symm, upd_same]
    · rw [upd_ne (ne_of_none e hp0), upd_ne (ne_of_none e hl')]
      exact e
end
section
variable {P : Program} {w : World} {K : PySem.W.Frag} {mg : Str → Option Value} {base : Heap}
theorem mix_bound {st : Int} {n : Nat} (h0 : 0 ≤ st) (h1 : st < 2147483647) (hn : n ≤ 1000000) : (st + 7919 * ((n + 1 : Nat) : Int) + 104729).natAbs < 2 ^ 64 := by
  have e : (2 : Nat) ^ 64 = 18446744073709551616 := by decide
  rw [e]
  omega
theorem mix_bound2 {x : Int} {n : Nat} (h0 : 0 ≤ x) (h1 : x < 2147483629) (hn : n ≤ 1000000) : (x * 48271 + 40503 * ((n + 1 : Nat) : Int) * ((n + 1 : Nat) : Int) + 29).natAbs < 2 ^ 64 := by
  have e : (2 : Nat) ^ 64 = 18446744073709551616 := by decide
  have h2 : (0 : Int) ≤ ((n + 1 : Nat) : Int) := by omega
  have h3 : ((n + 1 : Nat) : Int) ≤ 1000001 := by omega
  have h4 : (0 : Int) ≤ ((n + 1 : Nat) : Int) * ((n + 1 : Nat) : Int) := Int.mul_nonneg h2 h2
  have h5 : ((n + 1 : Nat) : Int) * ((n + 1 : Nat) : Int) ≤ 1000001 * 1000001 := Int.mul_le_mul h3 h3 h2 (by decide)
  have e2 : 40503 * ((n + 1 : Nat) : Int) * ((n + 1 : Nat) : Int) = 40503 * (((n + 1 : Nat) : Int) * ((n + 1 : Nat) : Int)) := Int.mul_assoc _ _ _
  rw [e, e2]
  generalize ((n + 1 : Nat) : Int) * ((n + 1 : Nat) : Int) = q at *
  omega
theorem dpInts {K : PySem.W.Frag} {H : Hp} : ∀ ms : List Int, DpAll K H (ms.map V.int) (ms.map PyData.int)
  | [] => .nil
  | m :: ms => .cons (.int m) (dpInts ms)
theorem layInts : ∀ ms : List Int, PyData.canLayAll0 (ms.map PyData.int) = true
  | [] => by simp [PyData.canLayAll0]
  | m :: ms => by simp [PyData.canLayAll0, PyData.canLay0, layInts ms]
theorem depInts : ∀ ms : List Int, PyData.depthAll (ms.map PyData.int) = 0
  | [] => by simp [PyData.depthAll]
  | m :: ms => by simp [PyData.depthAll, PyData.depth, depInts ms]
theorem shpInts (ms : List Int) : SeqAt.shaped (.list (ms.map PyData.int)) = true := by
  show (PyData.canLay0 (.list (ms.map PyData.int)) && decide (PyData.depth (.list (ms.map PyData.int)) ≤ 64)) = true
  rw [Bool.and_eq_true]
  refine ⟨by simp only [PyData.canLay0]; exact layInts ms, decide_eq_true ?_⟩
  simp only [PyData.depth, depInts]
  omega
theorem scDraw : FnScope ["_law_spring_here", "_law_many", "_law_cell", "_law_digit", "_law_mixed_here"] ["_law_spring_here", "_law_many"] (defScope s_l_draw) := ⟨rfl, rfl, rfl, by decide +kernel, rfl, by decide +kernel, by decide +kernel⟩
theorem ok_draw {f : Addr} {fd : FuncData} (F : Fun K "_law_draw" "_law_draw" s_l_draw f fd) (mi : mg "int" = none) : FnOk P w K mg base CX0 1 f fd ["_law_spring_here", "_law_many"] spDraw := by
  refine F.ok scDraw (fun vs H Q E h => ?_) (fun cdv A outer s H vs Q E hr h => ?_)
  · obtain ⟨p, l, n, m, rfl, _⟩ := h
    rfl
  · obtain ⟨p, l, n, m, rfl, S, hn, hm0, hm1, k⟩ := h
    obtain ⟨ms, a, st, npl, hp, hl, hlen, ha, hst0, hst1⟩ := S
    have mne : m ≠ 0 := by omega
    have fm : ∀ x : Int, 0 ≤ x.fmod m ∧ x.fmod m < m := fun x => by
      rw [Int.fmod_eq_emod_of_nonneg _ (by omega)]
      exact ⟨Int.emod_nonneg _ mne, Int.emod_lt_of_pos _ hm0⟩
    have tail : ∃ t, PSs (cxOf CX0 P w K mg base ["_law_spring_here", "_law_many", "_law_cell", "_law_digit", "_law_mixed_here"] "_law_draw" (defScope s_l_draw) f cdv A outer s H E).nox ((defBody s_l_draw).drop 2) t ∧
        ∀ (ms : List Int) (a st : Int) (H1 : Hp) (c : Option V), H1 p = some (.lst [.ref l, .int a, .int ((n + 1 : Nat) : Int), .int st]) → H1 l = some (.lst (ms.map V.int)) → ms.length ≤ 63 → 0 ≤ a → 0 ≤ st → st < 2147483647 → Same2 p l H H1 →
          t { nx := fun _ H' => Q .non H', rt := Q } [some (.ref p), some (.int m), c, none, none] H1 := by
      refine ⟨_, pss_cons (ps_if (pt_cmpR op_gt (pe_ix ix_list (pv 0) pe_int (fun _ _ => rfl)) pe_int (nomark _))
          (pss_cons (ps_set (i := 3) scDraw.nd rfl (Or.inl rfl) (pe_op op_modN (pe_callTy call_int1 (by rfl) mi (by decide +kernel) (pa_cons (pe_ix ix_list (pv 0) pe_int (fun _ _ => rfl)) pa_nil)) (pv 1)))
          (pss_cons (ps_asg (pe_op op_fdivN (pe_ix ix_list (pv 0) pe_int (fun _ _ => rfl)) (pv 1)) (pg_sub (pv 0) pe_int set_list))
          (pss_one (ps_ret (pv 3)))))
          pss_nil)
        (pss_cons (ps_set (i := 4) scDraw.nd rfl (Or.inl rfl) (pe_op op_mod (pe_callTy call_int1 (by rfl) mi (by decide +kernel) (pa_cons (pe_op op_pow (pe_op op_add (pe_op op_add (pe_ix ix_list (pv 0) pe_int (fun _ _ => rfl)) (pe_op op_mul pe_int (pe_ix ix_list (pv 0) pe_int (fun _ _ => rfl)))) pe_int) pe_int) pa_nil)) pe_int))
        (pss_cons (ps_set (i := 4) scDraw.nd rfl (Or.inl rfl) (pe_op op_add (pe_op op_add (pe_op op_mul (pv 4) pe_int) (pe_op op_mul (pe_op op_mul pe_int (pe_ix ix_list (pv 0) pe_int (fun _ _ => rfl))) (pe_ix ix_list (pv 0) pe_int (fun _ _ => rfl)))) pe_int))
        (pss_one (ps_ret (pe_op op_modN (pe_op op_mod (pe_callTy call_int1 (by rfl) mi (by decide +kernel) (pa_cons (pe_op op_pow (pv 4) pe_int) pa_nil)) pe_int) (pv 1)))))), ?_⟩
      intro ms a st H1 c hp hl hlen ha hst0 hst1 s1
      -- if spring[1] > 0
      refine ⟨_, rfl, p, _, _, _, rfl, rfl, SqL.of hp, at_of (j := 1) rfl rfl, _, _, rfl, rfl, _, rfl, ite2 (fun h1 => ?_) (fun h1 => ?_)⟩
      · -- digit = int(spring[1]) % many; spring[1] = spring[1] // many; return digit
        refine ⟨_, rfl, p, _, _, _, rfl, rfl, SqL.of hp, at_of (j := 1) rfl rfl, .inl ⟨_, rfl, _, rfl, _, _, rfl, rfl, mne, ?_⟩⟩
        refine ⟨_, rfl, p, _, _, _, rfl, rfl, SqL.of hp, at_of (j := 1) rfl rfl, _, rfl, _, _, rfl, rfl, ⟨mne, by omega⟩, _, rfl, p, _, _, 1, rfl, rfl, hp, rfl, _, rfl, ?_⟩
        have f0 : 0 ≤ a.fdiv m := by
          rw [Int.fdiv_eq_ediv_of_nonneg _ (by omega)]
          exact Int.ediv_nonneg ha (by omega)
        refine k _ _ (fm a).1 (fm a).2 ⟨ms, a.fdiv m, st, npl, upd_same, ?_, hlen, f0, hst0, hst1⟩ (s1.trans Same2.updp)
        rw [upd_ne npl.symm]
        exact hl
      · -- mixed
        have b1 := mix_bound hst0 hst1 hn
        refine ⟨_, rfl, p, _, _, _, rfl, rfl, SqL.of hp, at_of (j := 3) rfl rfl, _, rfl, p, _, _, _, rfl, rfl, SqL.of hp, at_of (j := 2) rfl rfl, _, _, rfl, rfl, .inl ⟨by decide, by decide⟩, _, _, rfl, rfl, _, _, rfl, rfl, _, _, rfl, rfl, ⟨by decide, by decide, b1⟩, .inl ⟨_, rfl, _, _, rfl, rfl, (by show (0 : Int) < 2147483629; decide), ?_⟩⟩
        have x0 : (0 : Int) ≤ (st + 7919 * ((n + 1 : Nat) : Int) + 104729) ^ (Int.toNat 5) % 2147483629 := Int.emod_nonneg _ (by decide)
        have x1 : (st + 7919 * ((n + 1 : Nat) : Int) + 104729) ^ (Int.toNat 5) % 2147483629 < 2147483629 := Int.emod_lt_of_pos _ (by decide)
        have b2 := mix_bound2 x0 x1 hn
        refine ⟨_, rfl, _, _, rfl, rfl, .inl ⟨by omega, by omega⟩, _, rfl, p, _, _, _, rfl, rfl, SqL.of hp, at_of (j := 2) rfl rfl, _, _, rfl, rfl, .inl ⟨by decide, by decide⟩, _, rfl, p, _, _, _, rfl, rfl, SqL.of hp, at_of (j := 2) rfl rfl, _, _, rfl, rfl, .inl ⟨by omega, by omega⟩, _, _, rfl, rfl, _, _, rfl, rfl, ?_⟩
        refine ⟨_, rfl, _, _, rfl, rfl, ⟨by decide, by decide, b2⟩, .inl ⟨_, rfl, _, _, rfl, rfl, (by show (0 : Int) < 1000000007; decide), _, rfl, _, _, rfl, rfl, mne, ?_⟩⟩
        exact k _ _ (fm _).1 (fm _).2 ⟨ms, a, st, npl, hp, hl, hlen, ha, hst0, hst1⟩ s1
    obtain ⟨t, ht, hq⟩ := tail
    refine ⟨_, pss_cons (ps_asg (pe_op op_add (pe_ix ix_list (pv 0) pe_int (fun _ _ => rfl)) pe_int) (pg_sub (pv 0) pe_int set_list))
      (pss_cons (ps_if (PW.pt (pw_and (pt_cmpR op_eq (pe_ix ix_list (pv 0) pe_int (fun _ _ => rfl)) pe_int (nomark _)) (pw_and1 (pt_cmpR (op_neD hr.units) (pe_ix ix_list (pv 0) pe_int (fun _ _ => rfl)) (pe_lst pa_nil) (nomark _)))))
        (pss_cons (ps_set (i := 2) scDraw.nd rfl (Or.inl rfl) (pe_bm PySem.F.plainAttrs_list PySem.F.slot_list_pop PySem.F.type_list_pop mt_popAt (pe_ix ix_list (pv 0) pe_int (fun _ _ => rfl)) (pa_cons pe_int pa_nil)))
        (pss_cons (ps_asg (pe_op op_mod (pe_callTy call_int1 (by rfl) mi (by decide +kernel) (pa_cons (pe_op op_add (pe_op op_add (pe_op op_mul (pe_ix ix_list (pv 0) pe_int (fun _ _ => rfl)) pe_int) (pv 2)) pe_int) pa_nil)) pe_int) (pg_sub (pv 0) pe_int set_list))
        (pss_one (ps_if (pt_cmpR op_ge (pv 2) (pe_op op_pow pe_int pe_int) (nomark _)) (pss_one (ps_asg (pv 2) (pg_sub (pv 0) pe_int set_list))) pss_nil))))
        pss_nil) ht), ?_⟩
    -- spring[2] = spring[2] + 1
    refine ⟨_, rfl, p, _, _, _, rfl, rfl, SqL.of hp, at_of (j := 2) rfl rfl, _, _, rfl, rfl, _, rfl, p, _, _, 2, rfl, rfl, hp, rfl, ?_⟩
    have e1 : ([V.ref l, .int a, .int (n : Int), .int st] : List V).set 2 (V.int ((n : Int) + 1)) = [V.ref l, .int a, .int ((n + 1 : Nat) : Int), .int st] := rfl
    rw [e1]
    have hp1 : upd H p (.lst [V.ref l, .int a, .int ((n + 1 : Nat) : Int), .int st]) p = some (.lst [V.ref l, .int a, .int ((n + 1 : Nat) : Int), .int st]) := upd_same
    have hl1 : upd H p (.lst [V.ref l, .int a, .int ((n + 1 : Nat) : Int), .int st]) l = some (.lst (ms.map V.int)) := by rw [upd_ne npl.symm]; exact hl
    have s1 : Same2 p l H (upd H p (.lst [V.ref l, .int a, .int ((n + 1 : Nat) : Int), .int st])) := Same2.updp
    generalize upd H p (.lst [V.ref l, .int a, .int ((n + 1 : Nat) : Int), .int st]) = H1 at *
    -- if spring[1] == 0 and spring[0] != []
    refine ⟨_, rfl, p, _, _, _, rfl, rfl, SqL.of hp1, at_of (j := 1) rfl rfl, rfl, _, rfl, ite2 (fun h1 => ?_) (fun h1 => ?_)⟩
    · refine ⟨_, rfl, p, _, _, _, rfl, rfl, SqL.of hp1, at_of (j := 0) rfl rfl, (by show 0 ≤ sizeLine; decide), fun q hqn => ?_⟩
      have lq : l ≠ q := ne_of_none hl1 hqn
      have pq : p ≠ q := ne_of_none hp1 hqn
      have hl2 : upd H1 q (.lst []) l = some (.lst (ms.map V.int)) := by rw [upd_ne lq]; exact hl1
      have hp2 : upd H1 q (.lst []) p = some (.lst [V.ref l, .int a, .int ((n + 1 : Nat) : Int), .int st]) := by rw [upd_ne pq]; exact hp1
      have s2 : Same2 p l H (upd H1 q (.lst [])) := s1.trans fun c u e _ _ => by rw [upd_ne (ne_of_none e hqn)]; exact e
      refine ⟨.list (ms.map PyData.int), .list [], .lst (SqL.of hl2) (dpInts ms), .lst (SqL.of upd_same) .nil, shpInts ms, by decide +kernel, ?_⟩
      generalize upd H1 q (.lst []) = H2 at *
      cases ms with
      | nil =>
        refine ⟨false, by simp [PyData.eqv, PyData.eqvAll], iteF ?_⟩
        exact hq [] a st H2 none hp2 hl2 (by simp) ha hst0 hst1 s2
      | cons c ms =>
        refine ⟨true, by simp [PyData.eqv, PyData.eqvAll], iteT ?_⟩
        -- cell = spring[0].pop(0)
        have ix0 : seqIndex? 0 ((c :: ms).map V.int).length = some 0 := by simp [seqIndex?]
        refine ⟨_, rfl, p, _, _, _, rfl, rfl, SqL.of hp2, at_of (j := 0) rfl rfl, .inl ⟨rfl, _, SqL.of hl2⟩, l, _, _, 0, V.int c, rfl, rfl, hl2, by decide, by decide, ix0, rfl, ?_⟩
        have hl3 : upd H2 l (.lst (((c :: ms).map V.int).eraseIdx 0)) l = some (.lst (ms.map V.int)) := upd_same
        have hp3 : upd H2 l (.lst (((c :: ms).map V.int).eraseIdx 0)) p = some (.lst [V.ref l, .int a, .int ((n + 1 : Nat) : Int), .int st]) := by rw [upd_ne npl]; exact hp2
        have s3 : Same2 p l H (upd H2 l (.lst (((c :: ms).map V.int).eraseIdx 0))) := s2.trans Same2.updl
        have hlen3 : ms.length ≤ 63 := by
          have := hlen
          simp only [List.length_cons] at this
          omega
        generalize upd H2 l (.lst (((c :: ms).map V.int).eraseIdx 0)) = H3 at *
        -- spring[3] = int(spring[3] * 4099 + cell + 13) % 2147483647
        refine ⟨_, rfl, p, _, _, _, rfl, rfl, SqL.of hp3, at_of (j := 3) rfl rfl, _, _, rfl, rfl, .inl ⟨by omega, by omega⟩, _, rfl, _, _, rfl, rfl, _, _, rfl, rfl, .inl ⟨_, rfl, _, _, rfl, rfl, (by show (0 : Int) < 2147483647; decide), _, rfl, p, _, _, 3, rfl, rfl, hp3, rfl, ?_⟩⟩
        have y0 : (0 : Int) ≤ (st * 4099 + c + 13) % 2147483647 := Int.emod_nonneg _ (by decide)
        have y1 : (st * 4099 + c + 13) % 2147483647 < 2147483647 := Int.emod_lt_of_pos _ (by decide)
        have e4 : ([V.ref l, .int a, .int ((n + 1 : Nat) : Int), .int st] : List V).set 3 (V.int ((st * 4099 + c + 13) % 2147483647)) = [V.ref l, .int a, .int ((n + 1 : Nat) : Int), .int ((st * 4099 + c + 13) % 2147483647)] := rfl
        rw [e4]
        generalize (st * 4099 + c + 13) % 2147483647 = st' at *
        have hp4 : upd H3 p (.lst [V.ref l, .int a, .int ((n + 1 : Nat) : Int), .int st']) p = some (.lst [V.ref l, .int a, .int ((n + 1 : Nat) : Int), .int st']) := upd_same
        have hl4 : upd H3 p (.lst [V.ref l, .int a, .int ((n + 1 : Nat) : Int), .int st']) l = some (.lst (ms.map V.int)) := by rw [upd_ne npl.symm]; exact hl3
        have s4 : Same2 p l H (upd H3 p (.lst [V.ref l, .int a, .int ((n + 1 : Nat) : Int), .int st'])) := s3.trans Same2.updp
        generalize upd H3 p (.lst [V.ref l, .int a, .int ((n + 1 : Nat) : Int), .int st']) = H4 at *
        -- if cell >= 10 ** 18: spring[1] = cell
        refine ⟨_, rfl, _, _, rfl, rfl, ⟨by decide, by decide, by decide⟩, _, _, rfl, rfl, _, rfl, ite2 (fun h2 => ?_) (fun h2 => ?_)⟩
        · refine ⟨_, rfl, _, rfl, p, _, _, 1, rfl, rfl, hp4, rfl, ?_⟩
          have hp5 : upd H4 p (.lst [V.ref l, .int c, .int ((n + 1 : Nat) : Int), .int st']) p = some (.lst [V.ref l, .int c, .int ((n + 1 : Nat) : Int), .int st']) := upd_same
          have hl5 : upd H4 p (.lst [V.ref l, .int c, .int ((n + 1 : Nat) : Int), .int st']) l = some (.lst (ms.map V.int)) := by rw [upd_ne npl.symm]; exact hl4
          have c0 : (0 : Int) ≤ c := by
            have e18 : (10 : Int) ^ (Int.toNat 18) = 1000000000000000000 := by decide
            have h3 : (10 : Int) ^ (Int.toNat 18) ≤ c := by simpa using h2
            rw [e18] at h3
            omega
          exact hq ms c st' _ _ hp5 hl5 hlen3 c0 y0 y1 (s4.trans Same2.updp)
        · exact hq ms a st' H4 _ hp4 hl4 hlen3 ha y0 y1 s4
    · refine iteF ?_
      exact hq ms a st H1 none hp1 hl1 hlen ha hst0 hst1 s1
end
def spPick (K : PySem.W.Frag) : Sp := fun vs H Q _ => ∃ (p l t : Addr) (n : Nat) (xs : List V), vs = [.ref p, .ref t] ∧ Spr H p l n ∧ n ≤ 1000000 ∧ H t = some (.lst xs) ∧ 0 < xs.length ∧ xs.length < 1000000 ∧ t ≠ p ∧ t ≠ l ∧
  ∀ (j : Nat) v H', xs[j]? = some v → Spr H' p l (n + 1) → Same2 p l H H' → Q v H'
section
variable {P : Program} {w : World} {K : PySem.W.Frag} {mg : Str → Option Value} {base : Heap}
theorem scPick : FnScope ["_law_spring_here", "_law_things"] ["_law_spring_here", "_law_things"] (defScope s_l_pick) := ⟨rfl, rfl, rfl, by decide +kernel, rfl, by decide +kernel, by decide +kernel⟩
theorem ok_pick {f fD : Addr} {fd fdD : FuncData} (fInt : mg "int" = none) (fLen : mg "len" = none) (F : Fun K "_law_pick" "_law_pick" s_l_pick f fd) (FD : Fun K "_law_draw" "_law_draw" s_l_draw fD fdD) (bD : Binds K fdD ["_law_spring_here", "_law_many"] [])
    (mD : mg "_law_draw" = some (.ref fD)) : FnOk P w K mg base CX0 2 f fd ["_law_spring_here", "_law_things"] (spPick K) := by
  have GD : FnOk P w K mg base CX0 1 fD fdD ["_law_spring_here", "_law_many"] spDraw := ok_draw FD fInt
  refine F.ok scPick (fun vs H Q E h => ?_) (fun cdv A outer s H vs Q E hr h => ?_)
  · obtain ⟨p, l, t, n, xs, rfl, _⟩ := h
    rfl
  · obtain ⟨p, l, t, n, xs, rfl, S, hn, ht, h0, h1, tp, tl, k⟩ := h
    refine ⟨_, pss_one (ps_ret (pe_ix ix_list (pv 1) (pe_call GD hr rfl mD FD.kp bD .nil pass0 (pa_cons (pv 0) (pa_cons (pe_callB call_len_seq (by rfl) fLen PySem.boot_len (pa_cons (pv 1) pa_nil)) pa_nil))) (fun _ _ => rfl))), ?_⟩
    refine ⟨_, rfl, _, rfl, _, rfl, t, _, rfl, .inl (SqL.of ht), ?_⟩
    refine ⟨p, l, n, (xs.length : Int), rfl, S, hn, by omega, by omega, fun z H' z0 z1 S' s2 => ?_⟩
    have hj : z.toNat < xs.length := by omega
    have ht' := s2 t _ ht tp tl
    exact ⟨t, xs, z, xs[z.toNat], rfl, rfl, SqL.of ht', at_of (j := z.toNat) (by omega) (List.getElem?_eq_getElem hj), k z.toNat _ H' (List.getElem?_eq_getElem hj) S' s2⟩
end
end Cm

set_option linter.all false
/-! Tables of choices: a list of names and a number whose bits tell, for each choice of names that hold, true or false. Plain mathematics, no program. -/
namespace Tab
variable {α : Type} [DecidableEq α]
/-- the place of a choice c in a table over ns: bit k is set if the k-th name holds -/
def idx (c : α → Bool) : List α → Nat
  | [] => 0
  | n :: ns => (c n).toNat + 2 * idx c ns
theorem idx_lt (c : α → Bool) : ∀ ns : List α, idx c ns < 2 ^ ns.length
  | [] => by simp [idx]
  | n :: ns => by
    have h := idx_lt c ns
    have e : 2 ^ (n :: ns).length = 2 * 2 ^ ns.length := by rw [List.length_cons, Nat.pow_succ]; omega
    unfold idx
    rw [e]
    cases c n <;> simp <;> omega
theorem idx_bit (c : α → Bool) : ∀ (ns : List α) (k : Nat), (idx c ns).testBit k = (match ns[k]? with | some n => c n | none => false)
  | [], k => by simp [idx]
  | n :: ns, 0 => by
    have e : idx c (n :: ns) % 2 = (c n).toNat := by
      show ((c n).toNat + 2 * idx c ns) % 2 = _
      cases c n <;> simp <;> omega
    rw [Nat.testBit_zero, e]
    cases h : c n <;> simp [h]
  | n :: ns, k + 1 => by
    have e : idx c (n :: ns) / 2 = idx c ns := by
      show ((c n).toNat + 2 * idx c ns) / 2 = _
      cases c n <;> simp <;> omega
    rw [Nat.testBit_succ, e, idx_bit c ns k]
    simp
theorem idx_congr {c d : α → Bool} : ∀ {ns : List α}, (∀ n ∈ ns, c n = d n) → idx c ns = idx d ns
  | [], _ => rfl
  | n :: ns, h => by
    unfold idx
    rw [h n (List.mem_cons_self ..), idx_congr fun m hm => h m (List.mem_cons_of_mem _ hm)]
/-- what a table tells at a choice -/
def ev (ns : List α) (t : Nat) (c : α → Bool) : Bool := t.testBit (idx c ns)
theorem ev_congr {ns : List α} {t : Nat} {c d : α → Bool} (h : ∀ n ∈ ns, c n = d n) : ev ns t c = ev ns t d := by
  unfold ev
  rw [idx_congr h]
/-- the choice at a place -/
def choice (ns : List α) (i : Nat) : α → Bool := fun n => decide (n ∈ ns) && i.testBit (ns.idxOf n)
theorem idxOf_nodup {ns : List α} (h : ns.Nodup) {k : Nat} {n : α} (e : ns[k]? = some n) : ns.idxOf n = k := by
  induction ns generalizing k with
  | nil => simp at e
  | cons m ns ih =>
    obtain ⟨h1, h2⟩ := List.nodup_cons.mp h
    cases k with
    | zero =>
      have : m = n := by simpa using e
      subst this
      simp
    | succ k =>
      have e' : ns[k]? = some n := by simpa using e
      have hm : n ∈ ns := List.mem_of_getElem? e'
      have ne : m ≠ n := fun z => h1 (z ▸ hm)
      have hb : (m == n) = false := by simpa using ne
      rw [List.idxOf_cons, hb, cond_false, ih h2 e']
theorem idx_choice {ns : List α} (h : ns.Nodup) {i : Nat} (hi : i < 2 ^ ns.length) : idx (choice ns i) ns = i := by
  apply Nat.eq_of_testBit_eq
  intro k
  rw [idx_bit]
  cases e : ns[k]? with
  | none =>
    have hk : ns.length ≤ k := by simpa using e
    have : i < 2 ^ k := Nat.lt_of_lt_of_le hi (Nat.pow_le_pow_right (by decide) hk)
    simp [Nat.testBit_lt_two_pow this]
  | some n =>
    simp [choice, List.mem_of_getElem? e, idxOf_nodup h e]
/-! ### masks -/
def maskOf (ks : List Nat) : Nat := ks.foldl (fun m k => m ||| (1 <<< k)) 0
theorem maskFrom_bit (k : Nat) : ∀ (ks : List Nat) (m : Nat), (ks.foldl (fun m k => m ||| (1 <<< k)) m).testBit k = (m.testBit k || decide (k ∈ ks))
  | [], m => by simp
  | j :: ks, m => by
    rw [List.foldl_cons, maskFrom_bit k ks]
    rw [Nat.testBit_or]
    have e : (1 <<< j : Nat).testBit k = decide (k = j) := by
      rw [Nat.one_shiftLeft, Nat.testBit_two_pow]
      by_cases h : j = k
      · simp [h]
      · simp [h, Ne.symm h]
    rw [e]
    by_cases h1 : k = j
    · simp [h1]
    · simp [h1]
theorem maskOf_bit (ks : List Nat) (k : Nat) : (maskOf ks).testBit k = decide (k ∈ ks) := by
  unfold maskOf
  rw [maskFrom_bit]
  simp
theorem maskOf_lt {ks : List Nat} {n : Nat} (h : ∀ k ∈ ks, k < n) : maskOf ks < 2 ^ n := by
  apply Nat.lt_pow_two_of_testBit
  intro i hi
  rw [maskOf_bit]
  simp
  intro hm
  have := h i hm
  omega
/-! ### a test settled -/
def without (n p : Nat) : Nat := maskOf ((List.range (2 ^ n)).filter fun i => !i.testBit p)
theorem without_bit (n p i : Nat) : (without n p).testBit i = (decide (i < 2 ^ n) && !i.testBit p) := by
  unfold without
  rw [maskOf_bit]
  simp [List.mem_filter]
def settled (n t p : Nat) (b : Bool) : Nat :=
  let half := (if b then t >>> (1 <<< p) else t) &&& without n p
  half ||| (half <<< (1 <<< p))
def upd (c : α → Bool) (m : α) (b : Bool) : α → Bool := fun n => if n = m then b else c n
theorem upd_same (c : α → Bool) (m : α) (b : Bool) : upd c m b m = b := if_pos rfl
theorem upd_ne {c : α → Bool} {m n : α} {b : Bool} (h : n ≠ m) : upd c m b n = c n := if_neg h
theorem upd_self (c : α → Bool) (m : α) : upd c m (c m) = c := by
  funext n
  by_cases h : n = m
  · rw [h, upd_same]
  · rw [upd_ne h]
theorem idx_upd (c : α → Bool) {m : α} : ∀ {ns : List α} {p : Nat}, ns.Nodup → ns[p]? = some m → idx (upd c m true) ns = idx (upd c m false) ns + 2 ^ p
  | [], _, _, e => by simp at e
  | n :: ns, 0, h, e => by
    obtain ⟨h1, _⟩ := List.nodup_cons.mp h
    have en : n = m := by simpa using e
    subst en
    unfold idx
    rw [upd_same, upd_same, idx_congr (c := upd c n true) (d := upd c n false) fun k hk => ?_]
    · simp
      omega
    · have ne : k ≠ n := fun z => h1 (z ▸ hk)
      rw [upd_ne ne, upd_ne ne]
  | n :: ns, p + 1, h, e => by
    obtain ⟨h1, h2⟩ := List.nodup_cons.mp h
    have e' : ns[p]? = some m := by simpa using e
    have ne : n ≠ m := fun z => h1 (z ▸ List.mem_of_getElem? e')
    unfold idx
    rw [upd_ne ne, upd_ne ne, idx_upd c h2 e', Nat.pow_succ]
    omega
section
variable {ns : List α} {p : Nat} {m : α} {c : α → Bool} {t : Nat} {b : Bool}
theorem half_bit (n t p : Nat) (b : Bool) (i : Nat) : ((if b then t >>> (1 <<< p) else t) &&& without n p).testBit i = ((if b then t.testBit (2 ^ p + i) else t.testBit i) && (decide (i < 2 ^ n) && !i.testBit p)) := by
  rw [Nat.testBit_and, without_bit]
  cases b <;> simp [Nat.testBit_shiftRight, Nat.one_shiftLeft]
theorem settled_bit (n t p : Nat) (b : Bool) (i : Nat) : (settled n t p b).testBit i =
    (((if b then t.testBit (2 ^ p + i) else t.testBit i) && (decide (i < 2 ^ n) && !i.testBit p)) ||
      (decide (i ≥ 2 ^ p) && ((if b then t.testBit (2 ^ p + (i - 2 ^ p)) else t.testBit (i - 2 ^ p)) && (decide (i - 2 ^ p < 2 ^ n) && !(i - 2 ^ p).testBit p)))) := by
  unfold settled
  rw [Nat.testBit_or, Nat.testBit_shiftLeft, half_bit, half_bit, Nat.one_shiftLeft]
theorem ev_settled (h : ns.Nodup) (e : ns[p]? = some m) : ev ns (settled ns.length t p b) c = ev ns t (upd c m b) := by
  have i0lt := idx_lt (upd c m false) ns
  have i1lt := idx_lt (upd c m true) ns
  have b0 := idx_bit (upd c m false) ns p
  have b1 := idx_bit (upd c m true) ns p
  rw [e] at b0 b1
  simp only [upd_same] at b0 b1
  have e1 := idx_upd c h e
  have goal : (settled ns.length t p b).testBit (idx (upd c m false) ns) = t.testBit (idx (upd c m b) ns) ∧ (settled ns.length t p b).testBit (idx (upd c m true) ns) = t.testBit (idx (upd c m b) ns) := by
    rw [e1] at b1 i1lt
    generalize hi0 : idx (upd c m false) ns = i0 at *
    have sh : t.testBit (idx (upd c m b) ns) = (if b then t.testBit (2 ^ p + i0) else t.testBit i0) := by
      cases b with
      | false => simp [hi0]
      | true => simp [e1, Nat.add_comm]
    constructor
    · rw [settled_bit, sh, b0]
      have z : (decide (i0 ≥ 2 ^ p) && !(i0 - 2 ^ p).testBit p) = false := by
        by_cases hge : i0 ≥ 2 ^ p
        · have ex : i0 = 2 ^ p + (i0 - 2 ^ p) := by omega
          have q := Nat.testBit_two_pow_add_eq (i0 - 2 ^ p) p
          rw [← ex, b0] at q
          cases hq : (i0 - 2 ^ p).testBit p
          · rw [hq] at q
            cases q
          · simp
        · simp [hge]
      have z2 : ∀ x y : Bool, (decide (i0 ≥ 2 ^ p) && (x && (y && !(i0 - 2 ^ p).testBit p))) = false := by
        intro x y
        revert z
        cases decide (i0 ≥ 2 ^ p) <;> cases (i0 - 2 ^ p).testBit p <;> cases x <;> cases y <;> simp
      rw [z2]
      simp [i0lt]
    · rw [e1, settled_bit, sh, b1]
      have e3 : i0 + 2 ^ p - 2 ^ p = i0 := by omega
      rw [e3, b0]
      simp [i0lt]
  unfold ev
  cases hc : c m with
  | false =>
    have : upd c m false = c := by rw [← hc, upd_self]
    rw [← goal.1, this]
  | true =>
    have : upd c m true = c := by rw [← hc, upd_self]
    rw [← goal.2, this]
/-! ### bounds -/
theorem add_lt {n x p : Nat} (hx : x < 2 ^ n) (hp : p < n) (hb : x.testBit p = false) : x + 2 ^ p < 2 ^ n := by
  have nd : (List.range n).Nodup := List.nodup_range
  have hl : (List.range n).length = n := List.length_range
  have e := idx_choice nd (i := x) (by rw [hl]; exact hx)
  have ep : (List.range n)[p]? = some p := by rw [List.getElem?_range hp]
  have cp : choice (List.range n) x p = false := by
    unfold choice
    rw [idxOf_nodup nd ep, hb, Bool.and_false]
  have h1 : upd (choice (List.range n) x) p false = choice (List.range n) x := by rw [← cp, upd_self]
  have h2 := idx_upd (choice (List.range n) x) nd ep
  rw [h1, e] at h2
  have h3 := idx_lt (upd (choice (List.range n) x) p true) (List.range n)
  rw [h2, hl] at h3
  exact h3
theorem settled_lt (n t p : Nat) (b : Bool) (hp : p < n) : settled n t p b < 2 ^ (2 ^ n) := by
  apply Nat.lt_pow_two_of_testBit
  intro i hi
  rw [settled_bit]
  have d1 : decide (i < 2 ^ n) = false := by simp; omega
  rw [d1]
  cases h : decide (i ≥ 2 ^ p) with
  | false => simp
  | true =>
    have h' : i ≥ 2 ^ p := by simpa using h
    cases h2 : decide (i - 2 ^ p < 2 ^ n) with
    | false => simp
    | true =>
      have h2' : i - 2 ^ p < 2 ^ n := by simpa using h2
      cases h3 : (i - 2 ^ p).testBit p with
      | true => simp
      | false =>
        have := add_lt h2' hp h3
        omega
/-- two tables that tell the same are the same number -/
theorem table_ext {ns : List α} (h : ns.Nodup) {t u : Nat} (ht : t < 2 ^ (2 ^ ns.length)) (hu : u < 2 ^ (2 ^ ns.length)) (e : ∀ c, ev ns t c = ev ns u c) : t = u := by
  apply Nat.eq_of_testBit_eq
  intro i
  by_cases hi : i < 2 ^ ns.length
  · have q := e (choice ns i)
    unfold ev at q
    rw [idx_choice h hi] at q
    exact q
  · have g : 2 ^ (2 ^ ns.length) ≤ 2 ^ i := Nat.pow_le_pow_right (by decide) (by omega)
    rw [Nat.testBit_lt_two_pow (by omega), Nat.testBit_lt_two_pow (by omega)]
/-! ### which names make a difference -/
def makesDiff (n t p : Nat) : Bool := settled n t p true != settled n t p false
theorem makesDiff_iff (h : ns.Nodup) (e : ns[p]? = some m) : makesDiff ns.length t p = true ↔ ∃ c, ev ns t (upd c m true) ≠ ev ns t (upd c m false) := by
  have hp : p < ns.length := (List.getElem?_eq_some_iff.mp e).1
  unfold makesDiff
  rw [bne_iff_ne]
  constructor
  · intro ne
    apply Classical.byContradiction
    intro no
    refine ne (table_ext h (settled_lt _ _ _ _ hp) (settled_lt _ _ _ _ hp) fun c => ?_)
    rw [ev_settled h e, ev_settled h e]
    exact Classical.byContradiction fun z => no ⟨c, z⟩
  · rintro ⟨c, hc⟩ z
    apply hc
    rw [← ev_settled (t := t) (b := true) (c := c) h e, ← ev_settled (t := t) (b := false) (c := c) h e, z]
theorem no_diff (h : ns.Nodup) (e : ns[p]? = some m) (z : makesDiff ns.length t p = false) (c : α → Bool) (b : Bool) : ev ns t (upd c m b) = ev ns t c := by
  have all : ∀ c, ev ns t (upd c m true) = ev ns t (upd c m false) := fun c => Classical.byContradiction fun ne => by
    have := (makesDiff_iff (t := t) h e).mpr ⟨c, ne⟩
    rw [z] at this
    cases this
  have self := upd_self c m
  cases hc : c m <;> cases b <;> rw [hc] at self
  · rw [self]
  · rw [all, self]
  · rw [← all, self]
  · rw [self]
/-! ### a table told over other names -/
def narrow (ns ws : List α) (i : Nat) : Nat := idx (fun n => choice ws i n) ns
def overFrom (ns : List α) (t : Nat) (ws : List α) : Nat → Nat
  | 0 => 0
  | k + 1 => overFrom ns t ws k ||| ((t.testBit (narrow ns ws k)).toNat <<< k)
theorem one_bit {j : Nat} (h : j ≠ 0) : Nat.testBit 1 j = false := by
  cases j with
  | zero => exact absurd rfl h
  | succ j => rw [Nat.testBit_succ]; simp
theorem overFrom_bit (ns : List α) (t : Nat) (ws : List α) (i : Nat) : ∀ k, (overFrom ns t ws k).testBit i = (decide (i < k) && t.testBit (narrow ns ws i))
  | 0 => by simp [overFrom]
  | k + 1 => by
    unfold overFrom
    rw [Nat.testBit_or, overFrom_bit ns t ws i k, Nat.testBit_shiftLeft]
    rcases Nat.lt_trichotomy i k with h | h | h
    · have h1 : i < k + 1 := by omega
      have h2 : ¬ i ≥ k := by omega
      simp [h, h1, h2]
    · subst h
      cases t.testBit (narrow ns ws i) <;> simp
    · have h1 : ¬ i < k := by omega
      have h2 : ¬ i < k + 1 := by omega
      have h3 : i - k ≠ 0 := by omega
      cases t.testBit (narrow ns ws k) <;> simp [h1, h2, one_bit h3]
/-- the table over ws of what a table over ns tells, names of ns that are none of ws not holding -/
def over (ns : List α) (t : Nat) (ws : List α) : Nat := overFrom ns t ws (2 ^ ws.length)
theorem over_lt (ns : List α) (t : Nat) (ws : List α) : over ns t ws < 2 ^ (2 ^ ws.length) := by
  apply Nat.lt_pow_two_of_testBit
  intro i hi
  unfold over
  rw [overFrom_bit]
  have : ¬ i < 2 ^ ws.length := by omega
  simp [this]
theorem choice_idx {ws : List α} (h : ws.Nodup) (c : α → Bool) (n : α) : choice ws (idx c ws) n = (decide (n ∈ ws) && c n) := by
  unfold choice
  by_cases hn : n ∈ ws
  · have hl := List.idxOf_lt_length_of_mem hn
    have e : ws[ws.idxOf n]? = some n := by
      rw [List.getElem?_eq_getElem hl, List.getElem_idxOf hl]
    rw [idx_bit, e]
  · simp [hn]
theorem ev_over {ws : List α} (h : ws.Nodup) (c : α → Bool) : ev ws (over ns t ws) c = ev ns t fun n => decide (n ∈ ws) && c n := by
  unfold ev over
  rw [overFrom_bit]
  have : idx c ws < 2 ^ ws.length := idx_lt c ws
  simp only [this, decide_true, Bool.true_and]
  unfold narrow
  rw [idx_congr fun n _ => choice_idx h c n]
end
end Tab

set_option Elab.async false
set_option linter.all false
set_option maxRecDepth 100000
set_option maxHeartbeats 8000000
namespace Cm
open PySem PySem.Spec PyProof.Rows L2
theorem same_step {H H' : Hp} {a : Addr} {o : HO} (s : Same H H') (h : H' a = none) : Same H (upd H' a o) := fun b u e => by
  rw [upd_ne (ne_of_none (s b u e) h)]
  exact s b u e
/-- a list of one's own, laid behind H, is written -/
theorem same_over {H H' : Hp} {a : Addr} {o : HO} (s : Same H H') (h : H a = none) : Same H (upd H' a o) := fun b u e => by
  rw [upd_ne (ne_of_none e h)]
  exact s b u e
/-! ### masks and tables by the program -/
abbrev natV (k : Nat) : V := .int (k : Int)
def spMask (K : PySem.W.Frag) : Sp := fun vs H Q _ => ∃ (a : Addr) (ks : List Nat), vs = [.ref a] ∧ SqL K H a (ks.map natV) ∧ (∀ k ∈ ks, k ≤ 1000000) ∧ Q (natV (Tab.maskOf ks)) H
theorem or_nat (m k : Nat) : Builtin.bitOr (m : Int) (1 * 2 ^ (Int.toNat (k : Int))) = ((m ||| 1 <<< k : Nat) : Int) := by
  rw [Int.toNat_natCast, Int.one_mul, Nat.one_shiftLeft]
  have e : ((2 : Int) ^ k) = ((2 ^ k : Nat) : Int) := by simp
  rw [e, Bits.bitOr_pp (Int.natCast_nonneg _) (Int.natCast_nonneg _), Int.toNat_natCast, Int.toNat_natCast]
theorem mask_take {ks : List Nat} {i k : Nat} (h : ks[i]? = some k) : Tab.maskOf (ks.take (i + 1)) = Tab.maskOf (ks.take i) ||| 1 <<< k := by
  have hi := (List.getElem?_eq_some_iff.mp h).1
  have e : ks.take (i + 1) = ks.take i ++ [k] := by
    rw [List.take_succ_eq_append_getElem hi]
    rw [List.getElem?_eq_getElem hi] at h
    rw [Option.some.inj h]
  rw [e]
  unfold Tab.maskOf
  rw [List.foldl_append]
  rfl
section
variable {P : Program} {w : World} {K : PySem.W.Frag} {mg : Str → Option Value} {base : Heap}
theorem scMask : FnScope ["numbers", "mask", "number"] ["numbers"] (defScope s_mask_of) := ⟨rfl, rfl, rfl, by decide +kernel, rfl, by decide +kernel, by decide +kernel⟩
theorem ok_mask {f : Addr} {fd : FuncData} (F : Fun K "mask_of" "mask_of" s_mask_of f fd) : FnOk P w K mg base CX0 1 f fd ["numbers"] (spMask K) := by
  refine F.ok scMask (fun vs H Q E h => ?_) (fun cdv A outer s H vs Q E hr h => ?_)
  · obtain ⟨a, ks, rfl, _⟩ := h
    rfl
  · obtain ⟨a, ks, rfl, hS, hk, k⟩ := h
    refine ⟨_, pss_cons (ps_set (i := 1) scMask.nd rfl (Or.inl rfl) pe_int)
      (pss_cons (ps_for PassesOwn.never rfl (pi_list (pv 0)) (pg_name (i := 2) scMask.nd rfl (Or.inl rfl)) (pss_one (ps_set (i := 1) scMask.nd rfl (Or.inl rfl) (pe_op op_or (pv 1) (pe_op op_shl pe_int (pv 2))))))
      (pss_one (ps_ret (pv 1)))), ?_⟩
    refine ⟨_, rfl, a, rfl, ⟨_, hS⟩, for_list (xs := ks.map natV) (fun i σ H' => H' = H ∧ ∃ c, σ = [some (.ref a), some (natV (Tab.maskOf (ks.take i))), c]) ⟨rfl, _, rfl⟩ (fun i σ H' _ z => ?_) ?_ ?_⟩
    · rw [z.1]
      exact hS
    · rintro i x σ H' hx ⟨rfl, c, rfl⟩
      rw [List.getElem?_map] at hx
      obtain ⟨n, hn, rfl⟩ := Option.map_eq_some_iff.mp hx
      refine ⟨_, rfl, _, rfl, _, _, rfl, rfl, ⟨by omega, ?_, by decide⟩, _, _, rfl, rfl, rfl, some (natV n), ?_⟩
      · have := hk n (List.mem_of_getElem? hn)
        omega
      · have e := or_nat (Tab.maskOf (ks.take i)) n
        have e2 : natV (Tab.maskOf (ks.take (i + 1))) = V.int (Builtin.bitOr (Tab.maskOf (ks.take i) : Int) (1 * 2 ^ (Int.toNat (n : Int)))) := by
          rw [mask_take hn]
          show V.int _ = _
          rw [← e]
        rw [e2]
        rfl
    · rintro σ H' ⟨rfl, c, rfl⟩
      refine ⟨_, rfl, ?_⟩
      rw [List.length_map, List.take_length]
      exact k

/-! ### (1 << (1 << n)) - 1 -/
def spEvery : Sp := fun vs H Q _ => ∃ n : Nat, vs = [natV n] ∧ n ≤ 12 ∧ Q (natV (2 ^ (2 ^ n) - 1)) H
theorem pow_cast (n : Nat) : (1 : Int) * 2 ^ (Int.toNat (n : Int)) = ((2 ^ n : Nat) : Int) := by
  rw [Int.toNat_natCast, Int.one_mul]
  simp
theorem pow12 {n : Nat} (h : n ≤ 12) : 2 ^ n ≤ 4096 := Nat.le_trans (Nat.pow_le_pow_right (by decide) h) (by decide)
theorem scEvery : FnScope ["count"] ["count"] (defScope s_everywhere) := ⟨rfl, rfl, rfl, by decide +kernel, rfl, by decide +kernel, by decide +kernel⟩
theorem ok_every {f : Addr} {fd : FuncData} (F : Fun K "everywhere" "everywhere" s_everywhere f fd) : FnOk P w K mg base CX0 1 f fd ["count"] spEvery := by
  refine F.ok scEvery (fun vs H Q E h => ?_) (fun cdv A outer s H vs Q E hr h => ?_)
  · obtain ⟨n, rfl, _⟩ := h
    rfl
  · obtain ⟨n, rfl, hn, k⟩ := h
    refine ⟨_, pss_one (ps_ret (pe_op op_sub (pe_op op_shl pe_int (pe_op op_shl pe_int (pv 0))) pe_int)), ?_⟩
    refine ⟨_, rfl, _, _, rfl, rfl, ⟨by omega, by omega, by decide⟩, _, _, rfl, rfl, ⟨?_, ?_, by decide⟩, _, _, rfl, rfl, ?_⟩
    · rw [pow_cast]
      exact Int.natCast_nonneg _
    · rw [pow_cast]
      have := pow12 hn
      exact Int.ofNat_le.mpr (Nat.le_trans this (by decide))
    · rw [pow_cast, pow_cast]
      have e : (((2 ^ 2 ^ n : Nat) : Int) - 1) = ((2 ^ (2 ^ n) - 1 : Nat) : Int) := by
        have : 0 < 2 ^ (2 ^ n) := Nat.pow_pos (by decide)
        generalize 2 ^ (2 ^ n) = z at *
        omega
      show Q (V.int (((2 ^ 2 ^ n : Nat) : Int) - 1)) H
      rw [e]
      exact k
/-! ### where a test does not hold -/
def spWithout (K : PySem.W.Frag) : Sp := fun vs H Q _ => ∃ n p : Nat, vs = [natV n, natV p] ∧ n ≤ 12 ∧ p ≤ 12 ∧ ∀ H', Same H H' → Q (natV (Tab.without n p)) H'
theorem bit_test (i p : Nat) : (Builtin.bitAnd (((i : Nat) : Int) / 2 ^ (Int.toNat (p : Int))) 1 != 0) = i.testBit p := by
  rw [Int.toNat_natCast]
  have e : (((i : Nat) : Int) / 2 ^ p) = ((i / 2 ^ p : Nat) : Int) := by
    have : ((2 : Int) ^ p) = ((2 ^ p : Nat) : Int) := by simp
    rw [this]
    rfl
  have e2 : (i / 2 ^ p) &&& 1 = (i / 2 ^ p) % 2 := Nat.and_one_is_mod _
  rw [e, bitAnd_pp (Int.natCast_nonneg _) (by decide), Int.toNat_natCast, show (1 : Int).toNat = 1 from rfl, e2, Nat.testBit_eq_decide_div_mod_eq]
  rcases Nat.mod_two_eq_zero_or_one (i / 2 ^ p) with h | h <;> rw [h] <;> rfl
def tBitNot (K : PySem.W.Frag) (i p : Nat) : TT := tNot (fun σ H Q => tOp (rI0 fun i j => .int (Builtin.bitAnd i j)) (tOp (rI (fun _ j => 0 ≤ j) fun i j => .int (i / 2 ^ j.toNat)) (tVar i) (tVar p)) (tC (.int 1)) σ H fun x H' => ∃ k, TruV K x H' k ∧ Q k H')
theorem scWithout : FnScope ["count", "place", "index"] ["count", "place"] (defScope s_without) := ⟨rfl, rfl, rfl, by decide +kernel, rfl, by decide +kernel, by decide +kernel⟩
theorem ok_without {f fM : Addr} {fd fdM : FuncData} (mR : mg "range" = none) (mM : mg "mask_of" = some (.ref fM)) (FM : Fun K "mask_of" "mask_of" s_mask_of fM fdM) (bM : Binds K fdM ["numbers"] []) (F : Fun K "without" "without" s_without f fd) :
    FnOk P w K mg base CX0 2 f fd ["count", "place"] (spWithout K) := by
  have GM : FnOk P w K mg base CX0 1 fM fdM ["numbers"] (spMask K) := ok_mask FM
  refine F.ok scWithout (fun vs H Q E h => ?_) (fun cdv A outer s H vs Q E hr h => ?_)
  · obtain ⟨n, p, rfl, _⟩ := h
    rfl
  · obtain ⟨n, p, rfl, hn, hp, k⟩ := h
    refine ⟨_, pss_one (ps_ret (pe_call GM hr rfl mM FM.kp bM .nil pass0 (pa_cons (pe_lc (own := [("index", 2)]) (g := gName 2) (tt := tBitNot K 2 1) (te := tVar 2) (by rfl) scWithout.nd (pi_range1 (by rfl) mR (pa_cons (pe_op op_shl pe_int (pv 0)) pa_nil))
      (blkOk_by (own := [("index", 2)]) (N := ["count", "place", "index"]) (sc := defScope s_without) (by decide +kernel))
      (fun _ _ _ _ _ => pg_name (i := 2) scWithout.nd rfl (Or.inl rfl)) (fun _ _ _ _ _ => pts_one (pt_not (pt_truth (pe_op op_and (pe_op op_shr (pv 2) (pv 1)) pe_int) (by intro _; rfl)))) (fun _ _ _ _ _ => pv 2)) pa_nil))), ?_⟩
    have hb := pow12 hn
    refine ⟨_, rfl, _, _, rfl, rfl, ⟨by omega, by omega, by decide⟩, ((2 ^ n : Nat) : Int), (by show [V.int (1 * 2 ^ (Int.toNat (n : Int)))] = _; rw [pow_cast]), (by exact Int.le_trans (by decide) (Int.natCast_nonneg _)), (by exact Int.lt_of_le_of_lt (Int.ofNat_le.mpr hb) (by decide)), fun D hD => ?_⟩
    rw [Int.toNat_natCast]
    refine lc_range (lo := 0) (n := 2 ^ n) (fun i H' => Same H H' ∧ H' D = some (.lst (((List.range i).filter (fun j => !j.testBit p)).map natV))) ⟨same_step (Same.refl H) hD, upd_same⟩ ?_ ?_
    · rintro i H' hi ⟨sH, hL⟩
      refine ⟨rfl, _, rfl, _, rfl, _, _, rfl, rfl, Int.natCast_nonneg _, _, _, rfl, rfl, _, rfl, ?_⟩
      rw [show ((0 : Int) + (i : Int)) = ((i : Nat) : Int) from Int.zero_add _, bit_test]
      cases hb2 : i.testBit p with
      | true =>
        refine iteF ⟨sH, ?_⟩
        rw [List.range_succ, List.filter_append]
        simpa [hb2] using hL
      | false =>
        refine iteT ⟨_, rfl, _, hL, ?_, same_over sH hD, ?_⟩
        · rw [List.length_map]
          have h1 := List.length_filter_le (fun j => !Nat.testBit j p) (List.range i)
          rw [List.length_range] at h1
          exact Nat.lt_of_le_of_lt h1 (Nat.lt_trans hi (Nat.lt_of_le_of_lt hb (by decide)))
        · rw [upd_same, List.range_succ, List.filter_append, List.map_append]
          simp [hb2]
    · rintro H' ⟨sH, hL⟩
      refine ⟨D, _, rfl, SqL.of hL, fun k hk => ?_, k H' sH⟩
      have := List.mem_range.mp (List.mem_filter.mp hk).1
      omega
end
end Cm

set_option Elab.async false
set_option linter.all false
set_option maxRecDepth 100000
set_option maxHeartbeats 8000000
namespace Cm
open PySem PySem.Spec PyProof.Rows L2
/-- a def of the program, where it stands and its promise -/
structure Dn (P : Program) (w : World) (K : PySem.W.Frag) (mg : Str → Option Value) (base : Heap) (x : Str) (ps : List Str) (k : Nat) (sp : Sp) : Prop where
  ex : ∃ f fd, FnOk P w K mg base CX0 k f fd ps sp ∧ mg x = some (.ref f) ∧ PySem.W.keepIn K (.ref f) = true ∧ Binds K fd ps []
theorem and_nat (a b : Nat) : Builtin.bitAnd (a : Int) (b : Int) = ((a &&& b : Nat) : Int) := by
  rw [bitAnd_pp (Int.natCast_nonneg _) (Int.natCast_nonneg _), Int.toNat_natCast, Int.toNat_natCast]
theorem or_nat2 (a b : Nat) : Builtin.bitOr (a : Int) (b : Int) = ((a ||| b : Nat) : Int) := by
  rw [Bits.bitOr_pp (Int.natCast_nonneg _) (Int.natCast_nonneg _), Int.toNat_natCast, Int.toNat_natCast]
theorem xor_nat (a b : Nat) : Builtin.bitXor (a : Int) (b : Int) = ((a ^^^ b : Nat) : Int) := by
  rw [Bits.bitXor_pp (Int.natCast_nonneg _) (Int.natCast_nonneg _), Int.toNat_natCast, Int.toNat_natCast]
theorem shr_nat (a k : Nat) : (a : Int) / 2 ^ (Int.toNat (k : Int)) = ((a >>> k : Nat) : Int) := by
  rw [Int.toNat_natCast, Nat.shiftRight_eq_div_pow]
  have : ((2 : Int) ^ k) = ((2 ^ k : Nat) : Int) := by simp
  rw [this]
  rfl
theorem shl_nat (a k : Nat) : (a : Int) * 2 ^ (Int.toNat (k : Int)) = ((a <<< k : Nat) : Int) := by
  rw [Int.toNat_natCast, Nat.shiftLeft_eq]
  have : ((2 : Int) ^ k) = ((2 ^ k : Nat) : Int) := by simp
  rw [this]
  rfl
/-! ### operators of natural numbers -/
def rNat (C : Nat → Nat → Prop) (g : Nat → Nat → Nat) : R2 := fun x y H Q => ∃ a b : Nat, x = natV a ∧ y = natV b ∧ C a b ∧ Q (natV (g a b)) H
abbrev CNat : Nat → Nat → Prop := fun _ _ => True
abbrev CSh : Nat → Nat → Prop := fun a b => a < 2 ^ 100000 ∧ b ≤ 100000
section
variable {X : Cx}
theorem n_shl : OpR X (binaryOp .LShift) (rNat CSh fun a b => a <<< b) := by
  intro pins s σ H x y v u Q I rx ry h
  obtain ⟨a, b, rfl, rfl, ⟨h1, h2⟩, q⟩ := h
  refine op_shlW pins s σ H _ _ v u Q I rx ry ⟨_, _, rfl, rfl, shl_ok (n := 100000) (by rw [Int.natAbs_natCast]; exact h1) (by omega), ?_⟩
  show Q (V.int _) H
  rw [shl_nat]
  exact q
theorem n_shr : OpR X (binaryOp .RShift) (rNat CNat fun a b => a >>> b) := by
  intro pins s σ H x y v u Q I rx ry h
  obtain ⟨a, b, rfl, rfl, _, q⟩ := h
  refine op_shr pins s σ H _ _ v u Q I rx ry ⟨_, _, rfl, rfl, Int.natCast_nonneg _, ?_⟩
  show Q (V.int _) H
  rw [shr_nat]
  exact q
theorem n_and : OpR X (binaryOp .BitAnd) (rNat CNat fun a b => a &&& b) := by
  intro pins s σ H x y v u Q I rx ry h
  obtain ⟨a, b, rfl, rfl, _, q⟩ := h
  refine op_and pins s σ H _ _ v u Q I rx ry ⟨_, _, rfl, rfl, ?_⟩
  show Q (V.int _) H
  rw [and_nat]
  exact q
theorem n_or : OpR X (binaryOp .BitOr) (rNat CNat fun a b => a ||| b) := by
  intro pins s σ H x y v u Q I rx ry h
  obtain ⟨a, b, rfl, rfl, _, q⟩ := h
  refine op_or pins s σ H _ _ v u Q I rx ry ⟨_, _, rfl, rfl, ?_⟩
  show Q (V.int _) H
  rw [or_nat2]
  exact q
theorem n_xor : OpR X (binaryOp .BitXor) (rNat CNat fun a b => a ^^^ b) := by
  intro pins s σ H x y v u Q I rx ry h
  obtain ⟨a, b, rfl, rfl, _, q⟩ := h
  refine op_xor pins s σ H _ _ v u Q I rx ry ⟨_, _, rfl, rfl, ?_⟩
  show Q (V.int _) H
  rw [xor_nat]
  exact q
theorem n_one {σ : L2.St} {H : Hp} {Q : VK} (h : Q (natV 1) H) : tC (.int 1) σ H Q := h
end
def spSettled (K : PySem.W.Frag) : Sp := fun vs H Q _ => ∃ (n t p : Nat) (b : Bool), vs = [natV n, natV t, natV p, .bl b] ∧ n ≤ 6 ∧ p < n ∧ ∀ H', Same H H' → Q (natV (Tab.settled n t p b)) H'
theorem half_lt {n t p : Nat} (b : Bool) (hn : n ≤ 6) : ((if b then t >>> (1 <<< p) else t) &&& Tab.without n p) < 2 ^ 64 := by
  have h1 : ((if b then t >>> (1 <<< p) else t) &&& Tab.without n p) ≤ Tab.without n p := Nat.and_le_right
  have h2 : Tab.without n p < 2 ^ (2 ^ n) := by
    refine Tab.maskOf_lt fun k hk => ?_
    exact List.mem_range.mp (List.mem_filter.mp hk).1
  have h3 : 2 ^ (2 ^ n) ≤ 2 ^ (2 ^ 6) := Nat.pow_le_pow_right (by decide) (Nat.pow_le_pow_right (by decide) hn)
  have h4 : (2 : Nat) ^ (2 ^ 6) = 2 ^ 64 := by decide
  omega
section
variable {P : Program} {w : World} {K : PySem.W.Frag} {mg : Str → Option Value} {base : Heap}
theorem scSettled : FnScope ["count", "table", "place", "truth", "shift", "half"] ["count", "table", "place", "truth"] (defScope s_settled) := ⟨rfl, rfl, rfl, by decide +kernel, rfl, by decide +kernel, by decide +kernel⟩
theorem ok_settled {f : Addr} {fd : FuncData} (W : Dn P w K mg base "without" ["count", "place"] 2 (spWithout K)) (F : Fun K "settled" "settled" s_settled f fd) :
    FnOk P w K mg base CX0 3 f fd ["count", "table", "place", "truth"] (spSettled K) := by
  obtain ⟨fW, fdW, GW, mW, kW, bW⟩ := W.ex
  refine F.ok scSettled (fun vs H Q E h => ?_) (fun cdv A outer s H vs Q E hr h => ?_)
  · obtain ⟨n, t, p, b, rfl, _⟩ := h
    rfl
  · obtain ⟨n, t, p, b, rfl, hn, hp, k⟩ := h
    refine ⟨_, pss_cons (ps_set (i := 4) scSettled.nd rfl (Or.inl rfl) (pe_op n_shl pe_int (pv 2)))
      (pss_cons (ps_set (i := 5) scSettled.nd rfl (Or.inl rfl) (pe_op n_and (pe_ifExp (pt_val (pv 3)) (pe_op n_shr (pv 1) (pv 4)) (pv 1)) (pe_call GW hr rfl mW kW bW .nil pass0 (pa_cons (pv 0) (pa_cons (pv 2) pa_nil)))))
      (pss_one (ps_ret (pe_op n_or (pv 5) (pe_op n_shl (pv 5) (pv 4)))))), ?_⟩
    have h64 := half_lt (t := t) (p := p) b hn
    have big : (2 : Nat) ^ 64 ≤ 2 ^ 100000 := Nat.pow_le_pow_right (by decide) (by decide)
    have hp6 : 1 <<< p ≤ 64 := by
      rw [Nat.one_shiftLeft]
      exact Nat.le_trans (Nat.pow_le_pow_right (by decide) (show p ≤ 6 by omega)) (by decide)
    have one : (1 : Nat) < 2 ^ 100000 := Nat.lt_of_lt_of_le (by decide) big
    refine ⟨_, rfl, 1, p, rfl, rfl, ⟨one, by omega⟩, ?_⟩
    refine ⟨_, rfl, _, rfl, ?_⟩
    have last : ∀ H', Same H H' → Q (natV (((if b then t >>> (1 <<< p) else t) &&& Tab.without n p) ||| (((if b then t >>> (1 <<< p) else t) &&& Tab.without n p) <<< (1 <<< p)))) H' := k
    cases b with
    | true =>
      refine iteT ⟨_, rfl, _, rfl, t, 1 <<< p, rfl, rfl, trivial, _, rfl, _, rfl, n, p, rfl, by omega, by omega, fun H' sH => ⟨_, _, rfl, rfl, trivial, _, rfl, _, rfl, _, rfl, _, _, rfl, rfl, ⟨Nat.lt_of_lt_of_le h64 big, Nat.le_trans hp6 (by decide)⟩, _, _, rfl, rfl, trivial, ?_⟩⟩
      exact last H' sH
    | false =>
      refine iteF ⟨_, rfl, _, rfl, _, rfl, n, p, rfl, by omega, by omega, fun H' sH => ⟨_, _, rfl, rfl, trivial, _, rfl, _, rfl, _, rfl, _, _, rfl, rfl, ⟨Nat.lt_of_lt_of_le h64 big, Nat.le_trans hp6 (by decide)⟩, _, _, rfl, rfl, trivial, ?_⟩⟩
      exact last H' sH
def spDiff (K : PySem.W.Frag) : Sp := fun vs H Q _ => ∃ (n t p : Nat), vs = [natV n, natV t, natV p] ∧ n ≤ 6 ∧ p < n ∧ ∀ H', Same H H' → Q (.bl (Tab.makesDiff n t p)) H'
theorem scDiff : FnScope ["count", "table", "place"] ["count", "table", "place"] (defScope s_makes_difference) := ⟨rfl, rfl, rfl, by decide +kernel, rfl, by decide +kernel, by decide +kernel⟩
theorem ok_diff {f : Addr} {fd : FuncData} (W : Dn P w K mg base "settled" ["count", "table", "place", "truth"] 3 (spSettled K)) (F : Fun K "makes_difference" "makes_difference" s_makes_difference f fd) :
    FnOk P w K mg base CX0 4 f fd ["count", "table", "place"] (spDiff K) := by
  obtain ⟨fW, fdW, GW, mW, kW, bW⟩ := W.ex
  refine F.ok scDiff (fun vs H Q E h => ?_) (fun cdv A outer s H vs Q E hr h => ?_)
  · obtain ⟨n, t, p, rfl, _⟩ := h
    rfl
  · obtain ⟨n, t, p, rfl, hn, hp, k⟩ := h
    refine ⟨_, pss_one (ps_ret (pe_cmpR op_ne (pe_call GW hr rfl mW kW bW .nil pass0 (pa_cons (pv 0) (pa_cons (pv 1) (pa_cons (pv 2) (pa_cons pe_bl pa_nil))))) (pe_call GW hr rfl mW kW bW .nil pass0 (pa_cons (pv 0) (pa_cons (pv 1) (pa_cons (pv 2) (pa_cons pe_bl pa_nil))))) (nomark _))), ?_⟩
    refine ⟨_, rfl, _, rfl, _, rfl, n, t, p, true, rfl, hn, hp, fun H1 s1 => ⟨_, rfl, _, rfl, _, rfl, n, t, p, false, rfl, hn, hp, fun H2 s2 => ⟨rfl, ?_⟩⟩⟩
    have e : (!decide (natV (Tab.settled n t p true) = natV (Tab.settled n t p false))) = Tab.makesDiff n t p := by
      unfold Tab.makesDiff
      have : (natV (Tab.settled n t p true) = natV (Tab.settled n t p false)) ↔ Tab.settled n t p true = Tab.settled n t p false :=
        ⟨fun z => Int.ofNat.inj (V.int.inj z), fun z => by rw [z]⟩
      by_cases h : Tab.settled n t p true = Tab.settled n t p false
      · simp [h]
      · simp [h, this]
    rw [e]
    exact k H2 fun b o z => s2 b o (s1 b o z)
end
end Cm

set_option Elab.async false
set_option linter.all false
set_option maxRecDepth 100000
set_option maxHeartbeats 8000000
namespace Cm
open PySem PySem.Spec PyProof.Rows L2
theorem rd_same {H H' : Hp} {a : Addr} {u : HO} (h : L2.Rd H a u) (s : Same H H') : L2.Rd H' a u := by
  rcases h with h | ⟨o, h⟩
  · exact .inl (s _ _ h)
  · exact .inr ⟨o, s _ _ h⟩
theorem sqL_same {K : PySem.W.Frag} {H H' : Hp} {a : Addr} {xs : List V} (h : SqL K H a xs) (s : Same H H') : SqL K H' a xs := by
  rcases h with h | h
  · exact .inl (rd_same h s)
  · exact .inr h
theorem sqT_same {K : PySem.W.Frag} {H H' : Hp} {a : Addr} {xs : List V} (h : SqT K H a xs) (s : Same H H') : SqT K H' a xs := by
  rcases h with h | h
  · exact .inl (rd_same h s)
  · exact .inr h
def spAsc (K : PySem.W.Frag) : Sp := fun vs H Q _ => ∃ (a : Addr) (ns : List Str), vs = [.ref a] ∧ SqL K H a (ns.map V.str) ∧ ns.length < 64 ∧
  ∀ (ys : List Str) (t : Addr) (H' : Hp), ys.Perm ns → sortedS ys = true → Same H H' → H t = none → H' t = some (.tup (ys.map V.str)) → Q (.ref t) H'
section
variable {P : Program} {w : World} {K : PySem.W.Frag} {mg : Str → Option Value} {base : Heap}
theorem scAsc : FnScope ["names", "name"] ["names"] (defScope s_ascending) := ⟨rfl, rfl, rfl, by decide +kernel, rfl, by decide +kernel, by decide +kernel⟩
theorem ok_asc {f : Addr} {fd : FuncData} (mT : mg "tuple" = none) (mS : mg "sorted" = none) (mStr : mg "str" = none) (F : Fun K "ascending" "ascending" s_ascending f fd) :
    FnOk P w K mg base CX0 1 f fd ["names"] (spAsc K) := by
  refine F.ok scAsc (fun vs H Q E h => ?_) (fun cdv A outer s H vs Q E hr h => ?_)
  · obtain ⟨a, ns, rfl, _⟩ := h
    rfl
  · obtain ⟨a, ns, rfl, hS, hn, k⟩ := h
    refine ⟨_, pss_one (ps_ret (pe_callTy call_tuple_of (by rfl) mT (by decide +kernel) (pa_cons (pe_callB cr_sortedS (by rfl) mS (by decide +kernel) (pa_cons (pe_lc (own := [("name", 1)]) (g := gName 1) (tt := tYes) (by rfl) scAsc.nd (pi_list (pv 0))
      (blkOk_by (own := [("name", 1)]) (N := ["names", "name"]) (sc := defScope s_ascending) (by decide +kernel))
      (fun _ _ _ _ _ => pg_name (i := 1) scAsc.nd rfl (Or.inl rfl)) (fun _ _ _ _ _ => pts_nil) (fun _ _ _ _ _ => pe_callTy SkE.call_str_str (by rfl) mStr (by decide +kernel) (pa_cons (pv 1) pa_nil))) pa_nil)) pa_nil))), ?_⟩
    refine ⟨_, rfl, a, rfl, ⟨_, hS⟩, fun D hD => ?_⟩
    refine lc_list (K := K) (a := a) (xs := ns.map V.str) (fun i H' => Same H H' ∧ H' D = some (.lst ((ns.take i).map V.str))) ⟨same_step (Same.refl H) hD, upd_same⟩ (fun i H' _ z => sqL_same hS z.1) ?_ ?_
    · rintro i x H' hx ⟨sH, hL⟩
      rw [List.getElem?_map] at hx
      obtain ⟨n, hn', rfl⟩ := Option.map_eq_some_iff.mp hx
      have hi := (List.getElem?_eq_some_iff.mp hn').1
      refine ⟨rfl, ?_⟩
      refine iteT (B := False) ?_
      rw [if_pos rfl]
      refine ⟨_, rfl, n, rfl, _, hL, ?_, same_over sH hD, ?_⟩
      · rw [List.length_map, List.length_take]
        exact Nat.lt_of_le_of_lt (Nat.min_le_right _ _) (Nat.lt_of_lt_of_le hn (by decide))
      · rw [upd_same, List.take_succ_eq_append_getElem hi, List.map_append]
        rw [List.getElem?_eq_getElem hi] at hn'
        rw [Option.some.inj hn']
        rfl
    · rintro H' ⟨sH, hL⟩
      rw [List.length_map, List.take_length] at hL
      refine ⟨D, ns, rfl, SqL.of hL, hn, fun ys p perm srt hp => ⟨p, _, rfl, .inl ⟨SqL.of upd_same, fun t ht => ?_⟩⟩⟩
      have s2 := same_step (o := .lst (ys.map V.str)) sH hp
      exact k ys t _ perm srt (same_step s2 ht) (s2.free ht) upd_same
end
end Cm

set_option Elab.async false
set_option linter.all false
set_option maxRecDepth 100000
set_option maxHeartbeats 8000000
namespace Cm
open PySem PySem.Spec PyProof.Rows L2
theorem inV_str (n : Str) (xs : List Str) : inV (.str n) (xs.map V.str) = decide (n ∈ xs) := by
  unfold inV
  rw [List.any_map]
  induction xs with
  | nil => rfl
  | cons x xs ih =>
    rw [List.any_cons, ih]
    show ((x == n) || _) = _
    by_cases h : x = n
    · subst h
      simp
    · simp [h, Ne.symm h]
theorem flat_strs (xs : List Str) : (xs.map V.str).all flatV = true := by
  rw [List.all_map]
  exact List.all_eq_true.mpr fun x _ => rfl
def spMerged (K : PySem.W.Frag) : Sp := fun vs H Q _ => ∃ (a b : Addr) (xs ys : List Str), vs = [.ref a, .ref b] ∧ SqT K H a (xs.map V.str) ∧ SqT K H b (ys.map V.str) ∧ xs.length + ys.length < 64 ∧
  ∀ (zs : List Str) (t : Addr) (H' : Hp), zs.Perm (xs ++ ys.filter fun n => decide (n ∉ xs)) → sortedS zs = true → Same H H' → H t = none → H' t = some (.tup (zs.map V.str)) → Q (.ref t) H'
section
variable {P : Program} {w : World} {K : PySem.W.Frag} {mg : Str → Option Value} {base : Heap}
theorem scMerged : FnScope ["one", "two", "name"] ["one", "two"] (defScope s_merged) := ⟨rfl, rfl, rfl, by decide +kernel, rfl, by decide +kernel, by decide +kernel⟩
theorem ok_merged {f : Addr} {fd : FuncData} (W : Dn P w K mg base "ascending" ["names"] 1 (spAsc K)) (mL : mg "list" = none) (F : Fun K "merged" "merged" s_merged f fd) :
    FnOk P w K mg base CX0 2 f fd ["one", "two"] (spMerged K) := by
  obtain ⟨fW, fdW, GW, mW, kW, bW⟩ := W.ex
  refine F.ok scMerged (fun vs H Q E h => ?_) (fun cdv A outer s H vs Q E hr h => ?_)
  · obtain ⟨a, b, xs, ys, rfl, _⟩ := h
    rfl
  · obtain ⟨a, b, xs, ys, rfl, hA, hB, hn, k⟩ := h
    refine ⟨_, pss_one (ps_ret (pe_call GW hr rfl mW kW bW .nil pass0 (pa_cons (pe_op op_cat (pe_callTy call_list_of (by rfl) mL (by decide +kernel) (pa_cons (pv 0) pa_nil)) (pe_lc (own := [("name", 2)]) (g := gName 2)
      (tt := tTest (tOp (rIn K true) (tVar 2) (tVar 0))) (by rfl) scMerged.nd (pi_tup (pv 1))
      (blkOk_by (own := [("name", 2)]) (N := ["one", "two", "name"]) (sc := defScope s_merged) (by decide +kernel))
      (fun _ _ _ _ _ => pg_name (i := 2) scMerged.nd rfl (Or.inl rfl)) (fun _ _ _ _ _ => pts_one (pt_cmpR op_notIn_seq (pv 2) (pv 0) (by rfl))) (fun _ _ _ _ _ => pv 2))) pa_nil))), ?_⟩
    refine ⟨_, rfl, a, _, rfl, .inr hA, fun L hL => ?_⟩
    have s1 := same_step (o := .lst (xs.map V.str)) (Same.refl H) hL
    have hL1 : upd H L (.lst (xs.map V.str)) L = some (.lst (xs.map V.str)) := upd_same
    generalize upd H L (.lst (xs.map V.str)) = H1 at *
    refine ⟨_, rfl, b, rfl, ⟨_, sqT_same hB s1⟩, fun D hD => ?_⟩
    refine lc_tup (K := K) (a := b) (xs := ys.map V.str) (fun i H' => Same H1 H' ∧ H' D = some (.lst (((ys.take i).filter fun n => decide (n ∉ xs)).map V.str))) ⟨same_step (Same.refl H1) hD, upd_same⟩ (fun i H' _ z => sqT_same (sqT_same hB s1) z.1) ?_ ?_
    · rintro i x H' hx ⟨sH, hD'⟩
      rw [List.getElem?_map] at hx
      obtain ⟨n, hn', rfl⟩ := Option.map_eq_some_iff.mp hx
      have hi := (List.getElem?_eq_some_iff.mp hn').1
      have et : ys.take (i + 1) = ys.take i ++ [n] := by
        rw [List.take_succ_eq_append_getElem hi]
        rw [List.getElem?_eq_getElem hi] at hn'
        rw [Option.some.inj hn']
      refine ⟨rfl, _, rfl, _, rfl, a, _, rfl, .inr (sqT_same (sqT_same hA s1) sH), rfl, flat_strs xs, ?_⟩
      rw [inV_str]
      refine ⟨!decide (n ∈ xs), rfl, ?_⟩
      by_cases hm : n ∈ xs
      · rw [show (!decide (n ∈ xs)) = false by simp [hm]]
        refine iteF ⟨sH, ?_⟩
        rw [et, List.filter_append]
        simpa [hm] using hD'
      · rw [show (!decide (n ∈ xs)) = true by simp [hm]]
        refine iteT ⟨_, rfl, _, hD', ?_, same_over sH hD, ?_⟩
        · rw [List.length_map]
          have h1 := List.length_filter_le (fun n => decide (n ∉ xs)) (ys.take i)
          rw [List.length_take] at h1
          have h2 : 64 ≤ sizeLine := by decide
          omega
        · rw [upd_same, et, List.filter_append, List.map_append]
          simp [hm]
    · rintro H' ⟨sH, hD'⟩
      rw [List.length_map, List.take_length] at hD'
      have hL2 := sH L _ hL1
      have h1 := List.length_filter_le (fun n => decide (n ∉ xs)) ys
      have h2 : 64 ≤ sizeLine := by decide
      refine ⟨L, D, _, _, rfl, rfl, hL2, hD', ?_, fun p hp => ?_⟩
      · rw [List.length_map, List.length_map]
        omega
      · rw [← List.map_append]
        have s3 : Same H (upd H' p (.lst ((xs ++ ys.filter fun n => decide (n ∉ xs)).map V.str))) := same_step (fun c o e => sH c o (s1 c o e)) hp
        refine ⟨p, _, rfl, SqL.of upd_same, ?_, fun zs t H2 pm srt s4 nt ht => k zs t H2 pm srt (fun c o e => s4 c o (s3 c o e)) (s3.free nt) ht⟩
        rw [List.length_append]
        omega
end
end Cm

set_option Elab.async false
set_option linter.all false
set_option maxRecDepth 100000
set_option maxHeartbeats 8000000
namespace Cm
open PySem PySem.Spec PyProof.Rows L2
def abc : Str := "abcdefghijklmnopqrstuvwxyz"
def isName (z : Str) : Bool := decide (1 ≤ z.length) && decide (z.length ≤ 8) && z.cps.toList.all fun c => decide (c ∈ abc.cps.toList)
/-- a thing that is a text, or one of which isinstance says that it is none -/
def spIsName (K : PySem.W.Frag) : Sp := fun vs H Q _ => ∃ v, vs = [v] ∧
  ((∃ z : Str, v = .str z ∧ z.length ≤ sizeLine ∧ ∀ H', Same H H' → Q (.bl (isName z)) H') ∨ (∃ t, TyX K H v t ∧ PySem.W.kitOne K t (.type "str") = some false ∧ Q (.bl false) H))
section
variable {P : Program} {w : World} {K : PySem.W.Frag} {mg : Str → Option Value} {base : Heap}
theorem scIsName : FnScope ["thing", "letter"] ["thing"] (defScope s_is_name) := ⟨rfl, rfl, rfl, by decide +kernel, rfl, by decide +kernel, by decide +kernel⟩
theorem ok_isName {f : Addr} {fd : FuncData} (mI : mg "isinstance" = none) (mS : mg "str" = none) (mL : mg "len" = none) (mA : mg "all" = none) (mLet : ∃ t, mg "LETTERS" = some (.str abc t)) (mLon : ∃ t, mg "LONGEST" = some (.int 8 t)) (F : Fun K "is_name" "is_name" s_is_name f fd) :
    FnOk P w K mg base CX0 1 f fd ["thing"] (spIsName K) := by
  obtain ⟨tt, mLet⟩ := mLet
  obtain ⟨t8, mLon⟩ := mLon
  refine F.ok scIsName (fun vs H Q E h => ?_) (fun cdv A outer s H vs Q E hr h => ?_)
  · obtain ⟨v, rfl, _⟩ := h
    rfl
  · obtain ⟨v, rfl, h⟩ := h
    refine ⟨_, pss_cons (ps_if (PW.pt (pw_or (pt_not (pt_val (pe_callB call_isi (by rfl) mI (by decide +kernel) (pa_cons (pv 0) (pa_cons (pe_bltn (v := .ty "str") (by rfl) mS (by decide +kernel) rfl) pa_nil))))) (pw_or1 (pt_not (pt_chain op_le op_le pe_int (pe_callB call_len_str (by rfl) mL PySem.boot_len (pa_cons (pv 0) pa_nil)) (pe_glob rfl mLon (v := .int 8) ⟨_, rfl⟩))))))
        (pss_one (ps_ret pe_bl)) pss_nil)
      (pss_one (ps_ret (pe_callB (cr_all rfl) (by rfl) mA (by decide +kernel) (pa_cons (pe_lc (own := [("letter", 1)]) (g := gName 1) (tt := tYes) (by rfl) scIsName.nd (pi_str (pv 0))
        (blkOk_by (own := [("letter", 1)]) (N := ["thing", "letter"]) (sc := defScope s_is_name) (by decide +kernel))
        (fun _ _ _ _ _ => pg_name (i := 1) scIsName.nd rfl (Or.inl rfl)) (fun _ _ _ _ _ => pts_nil) (fun _ _ _ _ _ => pe_cmpR op_in_sign (pv 1) (pe_glob rfl mLet (v := .str abc) ⟨_, rfl⟩) (by rfl))) pa_nil)))), ?_⟩
    rcases h with ⟨z, rfl, hz, k⟩ | ⟨t, ty, kt, k⟩
    · refine ⟨_, rfl, _, _, _, _, true, rfl, .ty "str", .base (.str z), kit_ty (by decide +kernel), _, rfl, ?_⟩
      refine iteF ?_
      refine ⟨_, rfl, z, rfl, hz, _, _, rfl, rfl, _, rfl, ?_⟩
      have len8 : z.length = z.cps.toList.length := by
        show z.cps.size = _
        simp
      refine ite2 (fun h1 => ?_) (fun h1 => ?_)
      · have h1 : 1 ≤ z.length := by
          have := of_decide_eq_true h1
          omega
        refine ⟨_, _, rfl, rfl, _, rfl, ?_⟩
        cases h2 : decide ((z.length : Int) ≤ 8) with
        | false =>
          refine iteT ?_
          have e : isName z = false := by
            have h3 := of_decide_eq_false h2
            have h4 : ¬ z.length ≤ 8 := by omega
            simp [isName, h4]
          rw [← e]
          exact k H (Same.refl H)
        | true =>
          have h3 : z.length ≤ 8 := by
            have := of_decide_eq_true h2
            omega
          refine iteF ?_
          refine ⟨_, rfl, _, rfl, fun D hD => ?_⟩
          refine lc_it walk_str (fun i H' => Same H H' ∧ H' D = some (.lst (((z.cps.toList.take i).map fun c => decide (c ∈ abc.cps.toList)).map V.bl))) ⟨same_step (Same.refl H) hD, upd_same⟩ (fun _ _ _ _ => trivial) ?_ ?_
          · rintro i x H1 H2 hi ⟨sH, hL⟩ ⟨rfl, c, hc, rfl⟩
            have hc' : z.cps.toList[i]? = some c := by simpa using hc
            have hi' := (List.getElem?_eq_some_iff.mp hc').1
            refine ⟨rfl, ?_⟩
            refine iteT (B := False) ?_
            rw [if_pos rfl]
            refine ⟨_, rfl, c, abc, rfl, rfl, _, hL, ?_, same_over sH hD, ?_⟩
            · rw [List.length_map, List.length_map, List.length_take]
              have : 8 < sizeLine := by decide
              omega
            · rw [upd_same, List.take_succ_eq_append_getElem hi', List.map_append, List.map_append]
              rw [List.getElem?_eq_getElem hi'] at hc'
              rw [Option.some.inj hc']
              rfl
          · rintro H1 ⟨sH, hL⟩
            refine ⟨D, _, rfl, SqL.of hL, ?_⟩
            have e : isName z = (((z.cps.toList.take z.cps.size).map fun c => decide (c ∈ abc.cps.toList)).all id) := by
              have e1 : z.cps.toList.take z.cps.size = z.cps.toList := List.take_of_length_le (by simp)
              rw [e1]
              simp [isName, h1, h3, List.all_map]
            rw [← e]
            exact k H1 sH
      · refine ⟨_, rfl, ?_⟩
        refine iteT ?_
        have e : isName z = false := by
          have h4 : ¬ 1 ≤ z.length := by
            intro q
            exact h1 (decide_eq_true (by omega))
          simp [isName, h4]
        rw [← e]
        exact k H (Same.refl H)
    · refine ⟨_, rfl, _, _, _, _, false, rfl, .ty "str", ty, kt, _, rfl, ?_⟩
      refine iteT ?_
      exact k
end
/-! ### names as data -/
theorem strOk_name {z : Str} (h : isName z = true) : PyData.strOk z = true := by
  unfold isName at h
  have h1 := (Bool.and_eq_true_iff.mp h).2
  unfold PyData.strOk
  rw [← Array.all_toList]
  refine List.all_eq_true.mpr fun c hc => ?_
  have h2 := of_decide_eq_true (List.all_eq_true.mp h1 c hc)
  have h3 : ∀ c ∈ abc.cps.toList, c < 0x110000 := by decide +kernel
  exact decide_eq_true (h3 c h2)
theorem dpStrs {K : PySem.W.Frag} {H : Hp} : ∀ ns : List Str, DpAll K H (ns.map V.str) (ns.map PyData.str)
  | [] => .nil
  | n :: ns => .cons (.str n) (dpStrs ns)
theorem layStrs : ∀ {ns : List Str}, (∀ n ∈ ns, isName n = true) → PyData.canLayAll0 (ns.map PyData.str) = true
  | [], _ => by simp [PyData.canLayAll0]
  | n :: ns, h => by simp [PyData.canLayAll0, PyData.canLay0, layStrs (ns := ns) fun m hm => h m (List.mem_cons_of_mem _ hm), strOk_name (h n (List.mem_cons_self ..))]
theorem depStrs : ∀ ns : List Str, PyData.depthAll (ns.map PyData.str) = 0
  | [] => by simp [PyData.depthAll]
  | n :: ns => by simp [PyData.depthAll, PyData.depth, depStrs ns]
theorem shpStrs {ns : List Str} (h : ∀ n ∈ ns, isName n = true) : SeqAt.shaped (.tuple (ns.map PyData.str)) = true := by
  show (PyData.canLay0 (.tuple (ns.map PyData.str)) && decide (PyData.depth (.tuple (ns.map PyData.str)) ≤ 64)) = true
  rw [Bool.and_eq_true]
  refine ⟨by simp only [PyData.canLay0]; exact layStrs h, decide_eq_true ?_⟩
  simp only [PyData.depth, depStrs]
  omega
theorem eqvStrs : ∀ ns ms : List Str, PyData.eqvAll (ns.map PyData.str) (ms.map PyData.str) = decide (ns = ms)
  | [], [] => by simp [PyData.eqvAll]
  | [], m :: ms => by simp [PyData.eqvAll]
  | n :: ns, [] => by simp [PyData.eqvAll]
  | n :: ns, m :: ms => by
    simp only [List.map_cons, PyData.eqvAll, PyData.eqv, eqvStrs ns ms]
    by_cases h : n = m
    · subst h
      simp
    · simp [h]
end Cm

set_option Elab.async false
set_option linter.all false
set_option maxRecDepth 100000
set_option maxHeartbeats 8000000
/-! Operators of own classes: a & b, ~a, a == b, where the class has them. -/
namespace Kv
open PySem PySem.Spec PyProof.Rows L2
theorem val_back {P : Value → Shared → Prop} {z : V} {v : Value} {s' : Shared} (r : L2.RelV z v) (h : P v s') : PySem.W.CmpBack P v s' := by
  cases z <;> first
    | (cases (show v = _ from r); exact h)
    | (obtain ⟨t, e⟩ := (show ∃ t, v = _ from r); cases e; exact h)
    | (unfold L2.RelV at r; cases v <;> first | exact h | cases r)
section
variable {X : Cx} {C g : Addr} {fd : FuncData} {ps : List Str} {sp : Sp} {CX : CXT} {n : Nat} {E : XK}
theorem ins_at {pins : List (Addr × Obj)} {σ : L2.St} {H : Hp} {s : Shared} {a dx : Addr} {fs : List (Str × V)} (I : Inv X pins σ H s) (e : H a = some (.ins C dx fs)) :
    ∃ od, PySem.W.InstAt s.heap a (PySem.W.instObj C dx) C (some od) := by
  obtain ⟨mA, O, _, _, _, _⟩ := ins_get I.hok e
  obtain ⟨od, J, _⟩ := O.look
  exact ⟨od, J⟩
/-- both are instances of the class at C, whose method is called with them -/
def rBinI (C : Addr) (sp : Sp) (E : XK) : R2 := fun x y H Q => ∃ a b dx dy fs gs, x = .ref a ∧ y = .ref b ∧ H a = some (.ins C dx fs) ∧ H b = some (.ins C dy gs) ∧ sp [.ref a, .ref b] H Q E
theorem op_binI {op : Operator} (hc : PySem.W.selfFirst X.K C = true) (hs : PySem.W.findIn X.K (.ref C) (PySem.dunder op.info.2) = some (some (.ref g))) (hf : PySem.W.isFn X.K (.ref g) = true)
    (F : FnOk X.prog X.w X.K X.mg X.base CX n g fd ps sp) (hr : Room n X.A) (hb : Binds X.K fd ps []) (hx : Passes CX X E) : OpR X (binaryOp op) (rBinI C sp E) := by
  intro pins s σ H x y v u Q I rx ry h
  obtain ⟨a, b, dx, dy, fs, gs, rfl, rfl, ha, hb', q⟩ := h
  cases (show v = Value.ref a from rx)
  cases (show u = Value.ref b from ry)
  obtain ⟨od, J⟩ := ins_at I ha
  obtain ⟨od', J'⟩ := ins_at I hb'
  obtain ⟨m, hF⟩ := I.fr
  refine PySem.W.binop_K (op := op) hF I.ok.mod.kin J J'.type hc hs hf ?_
  refine wpAny_mono (run_fn (us := [.ref a, .ref b]) (vs := [.ref a, .ref b]) F hr hb .nil hx I (.cons rfl (.cons rfl .nil)) (by simpa using q)) (fun w s' z => ?_) fun _ _ x => x
  obtain ⟨z', H', I', rz, qz⟩ := z
  exact val_back rz ⟨z', H', I', rz, qz⟩
def rInvI (C : Addr) (sp : Sp) (E : XK) : V → Hp → VK → Prop := fun x H Q => ∃ a dx fs, x = .ref a ∧ H a = some (.ins C dx fs) ∧ sp [.ref a] H Q E
theorem un_invI (hs : PySem.W.findIn X.K (.ref C) "__invert__" = some (some (.ref g))) (hf : PySem.W.isFn X.K (.ref g) = true)
    (F : FnOk X.prog X.w X.K X.mg X.base CX n g fd ps sp) (hr : Room n X.A) (hb : Binds X.K fd ps []) (hx : Passes CX X E) : UnR X (unaryOp .Invert) (rInvI C sp E) := by
  intro pins s σ H x v Q I rx h
  obtain ⟨a, dx, fs, rfl, ha, q⟩ := h
  cases (show v = Value.ref a from rx)
  obtain ⟨od, J⟩ := ins_at I ha
  obtain ⟨m, hF⟩ := I.fr
  exact PySem.W.ksp_inv hF I.ok.mod.kin J hs hf (run_fn (us := [.ref a]) (vs := [.ref a]) F hr hb .nil hx I (.cons rfl .nil) (by simpa using q))
/-- x == y by the class's own __eq__; y is of any type that is no subclass -/
def rEqI (K : PySem.W.Frag) (C : Addr) (sp : Sp) (E : XK) : R2 := fun x y H Q => ∃ a dx fs t, x = .ref a ∧ H a = some (.ins C dx fs) ∧ TyX K H y t ∧ PySem.W.notFirst K C t = true ∧ sp [.ref a, y] H Q E
theorem op_eqI (hs : PySem.W.findIn X.K (.ref C) "__eq__" = some (some (.ref g))) (hf : PySem.W.isFn X.K (.ref g) = true)
    (F : FnOk X.prog X.w X.K X.mg X.base CX n g fd ps sp) (hr : Room n X.A) (hb : Binds X.K fd ps []) (hx : Passes CX X E) : OpR X (compareOp .Eq) (rEqI X.K C sp E) := by
  intro pins s σ H x y v u Q I rx ry h
  obtain ⟨a, dx, fs, t, rfl, ha, ty, nf, q⟩ := h
  cases (show v = Value.ref a from rx)
  obtain ⟨od, J⟩ := ins_at I ha
  obtain ⟨m, hF⟩ := I.fr
  obtain ⟨Pk, kx, hP, _⟩ := kit_of I ry ty
  show wpAny _ _ (richCompare .Eq (.ref a) u) _ _ _
  refine PySem.W.cmp_K (op := .Eq) (tb := t) hr.units0 hF I.ok.mod.kin J (kx.ty _ _ I.kIn hP) nf hs hf ?_
  refine wpAny_mono (run_fn (us := [.ref a, u]) (vs := [.ref a, y]) F hr hb .nil hx I (.cons rfl (.cons ry .nil)) (by simpa using q)) (fun w s' z => ?_) fun _ _ x => x
  obtain ⟨z', H', I', rz, qz⟩ := z
  exact val_back rz ⟨z', H', I', rz, qz⟩
end
end Kv

set_option Elab.async false
set_option linter.all false
set_option maxRecDepth 100000
set_option maxHeartbeats 8000000
/-! for i, x in enumerate(t), t a tuple -/
namespace Kv
open PySem PySem.Spec PyProof.Rows L2
section
open PySem.AutoSeq1 (wpAny_loadPart')
theorem meets_enumT (t : Addr) (items : Array Value) :
    Meets (Builtin.«enumerate.__new__» ⟨[.type "enumerate", .ref t], []⟩) (fun _ R s => s.heap.IsTuple t items ∧
      R (.ok (.ret (.ref (s.heap.push { cls := .type "tuple_iterator", data := .fields #[.ref t, .int 0 0] }).objs.size)))
        { s with heap := (s.heap.push { cls := .type "tuple_iterator", data := .fields #[.ref t, .int 0 0] }).push { cls := .type "enumerate", data := .fields #[.none, .bool false, .ref s.heap.objs.size, rawInt 0, .none, .none] } }) :=
  .of_wp fun prog w A R s h => by
    obtain ⟨hp, g, d, tk, os⟩ := s
    obtain ⟨hL, h⟩ := h
    have hsub := sub_enumerate
    obtain ⟨o, hl, hc, n, hd⟩ := id hL
    wp_walk using wpAny_loadPart' hl
    refine wpAny_stack_any fun st => wpAny_pure ?_
    split
    · rename_i c _ _ _ _ _
      cases (c == Value.type "enumerate")
      · wp_walk using wpAny_loadPart' hl, wpAny_pyIter_tuple hL
        exact ⟨_, rfl, h⟩
      · wp_walk using wpAny_loadPart' hl, wpAny_pyIter_tuple hL
        exact ⟨_, rfl, h⟩
    · wp_walk using wpAny_loadPart' hl, wpAny_pyIter_tuple hL
      exact ⟨_, rfl, h⟩
variable {prog : Program} {w : World} {A : Around} {E : Value → Shared → Prop} {s : Shared}
theorem call_enumT {t : Addr} {items : Array Value} {Q : Value → Shared → Prop} (hL : s.heap.IsTuple t items)
    (h : ∀ h', IsEnum h' (s.heap.objs.size + 1) s.heap.objs.size 0 .none → h'.IsTupleIter s.heap.objs.size t 0 → h'.objs.size = s.heap.objs.size + 2 →
      (∀ b o, s.heap.get? b = some o → h'.get? b = some o) → Q (.ref (s.heap.objs.size + 1)) { s with heap := h' }) :
    wpAny (model prog w) A (call (.type "enumerate") [.ref t]) Q E s := by
  refine callType_new F.called_enumerate (by decide) (F.typeCall_enumerate_1 _) (F.newCall_enumerate_1 _) (fun obj => F.args_object_init_2 obj _) F.entry_enumerate_new (meets_enumT t items) ⟨hL, ?_⟩
  have hz : (s.heap.push { cls := .type "tuple_iterator", data := .fields #[.ref t, .int 0 0] }).objs.size = s.heap.objs.size + 1 := Heap.size_push ..
  show _ ∧ _
  rw [hz]
  have at1 := Heap.get?_push_size (s.heap.push { cls := .type "tuple_iterator", data := .fields #[.ref t, .int 0 0] }) (o := { cls := .type "enumerate", data := .fields #[.none, .bool false, .ref s.heap.objs.size, rawInt 0, .none, .none] }) rfl
  rw [hz] at at1
  exact ⟨⟨_, at1, rfl⟩, h _ at1 ⟨_, Heap.get?_push_of_some _ (Heap.get?_push_size _ rfl), rfl, rfl⟩ (by rw [Heap.size_push, hz]) fun b o x => Heap.get?_push_of_some _ (Heap.get?_push_of_some _ x)⟩
end
/-! The turns: the pair (i, x) is a new tuple at each turn, the tuple that is gone through stands still. -/
def IteT (K : PySem.W.Frag) (a : Addr) : It where
  go := fun k H => ∃ xs y, SqT K H a xs ∧ xs[k]? = some y
  yld := fun k H v H' => ∃ q y, v = .ref q ∧ H q = none ∧ H' = upd H q (.tup [.int (k : Nat), y]) ∧ ∀ xs, SqT K H a xs → xs[k]? = some y
  stop := fun k H => ∃ xs, SqT K H a xs ∧ xs.length = k
/-- how the heap stands ahead of turn k: the enumerate object at e, its iterator at j -/
def EnumAt (a e j : Addr) (k : Nat) (h : Heap) : Prop := (∃ o, IsEnum h e j ((k : Nat) : Int) o) ∧ h.IsTupleIter j a k ∧ e ≠ j
theorem EnumAt.apart {a e j : Addr} {k : Nat} {h : Heap} {xs : Array Value} (E : EnumAt a e j k h) (t : h.IsTuple a xs) : a ≠ j ∧ a ≠ e := by
  obtain ⟨⟨o, he⟩, ⟨oj, gj, cj, _⟩, _⟩ := E
  obtain ⟨ot, gt, ct, _⟩ := t
  constructor
  · intro z
    subst z
    rw [gt] at gj
    cases gj
    rw [ct] at cj
    exact absurd (Value.type.inj cj) (by decide)
  · intro z
    subst z
    have ge : h.get? a = some _ := he
    rw [gt] at ge
    cases ge
    exact absurd (Value.type.inj ct) (by decide)
theorem EnumAt.live {a e j : Addr} {k : Nat} {h : Heap} (E : EnumAt a e j k h) : ∀ b ∈ [e, j], b < h.objs.size := by
  obtain ⟨⟨o, he⟩, ⟨oj, gj, _⟩, _⟩ := E
  intro b hb
  rcases List.mem_cons.mp hb with z | z
  · exact z ▸ Heap.lt_size he
  · rw [List.mem_singleton.mp z]
    exact Heap.lt_size gj
theorem turn_enumT {P : Program} {w : World} {K : PySem.W.Frag} {es : List Expr} {c : Nat} {tp : Pos} (a e j : Addr) : Turn P w K (.Tuple es c tp) (IteT K a) [e, j] e (EnumAt a e j) where
  mem := List.mem_cons_self ..
  obj := fun k h E b hb => by
    obtain ⟨⟨o, he⟩, ⟨oj, gj, _, dj⟩, _⟩ := E
    rcases List.mem_cons.mp hb with z | z
    · subst z
      exact ⟨_, he, fun _ q => nomatch q⟩
    · rw [List.mem_singleton.mp z]
      refine ⟨oj, gj, fun _ q => ?_⟩
      rw [dj] at q
      cases q
  keep := fun k h h' E same => by
    obtain ⟨⟨o, he⟩, hj, ne⟩ := E
    exact ⟨⟨o, same e (List.mem_cons_self ..) _ he⟩, hj.at fun o q => same j (List.mem_cons_of_mem _ (List.mem_singleton.mpr rfl)) o q, ne⟩
  item := by
    intro X eP ew eK calm k pins s σ H Ex I fr E go
    subst eP
    subst ew
    subst eK
    obtain ⟨xs, y, sq, hy⟩ := go
    obtain ⟨vs, rel, tup, _⟩ := I.tuple sq
    obtain ⟨u, hu, ry⟩ := rel.get hy
    obtain ⟨nj, ne⟩ := EnumAt.apart E tup
    have young := EnumAt.live E
    obtain ⟨⟨o, he⟩, hj, nej⟩ := E
    have src := PySem.Draws.tuple (prog := X.prog) (w := X.w) (A := X.A.in1) (I.ok.hd calm) j a nj vs.toArray
    have within : k < vs.toArray.size := by
      have z := (List.getElem?_eq_some_iff.mp hu).1
      simpa using z
    have apart : e ∉ [j, a] := fun z => by
      rcases List.mem_cons.mp z with z | z
      · exact nej z
      · exact ne (List.mem_singleton.mp z).symm
    refine wpAny_pyNext_enum_itemD src he ⟨hj, tup⟩ within nej apart fun v h1 tk hv out next pair size same => ?_
    have ev : v = u := by
      have z : vs[k]? = some v := by simpa using hv
      exact Option.some.inj (z.symm.trans hu)
    subst ev
    refine ⟨_, rfl, wpAny_letOwnedTupleGo_enum (s := { s with heap := h1, toks := tk + 1 }) out fun h2 back but => ?_⟩
    have e0 : e < s.heap.objs.size := young e (List.mem_cons_self ..)
    have pair2 : h2.get? s.heap.objs.size = some { cls := .type "tuple", data := .seq #[.int k tk, v] } := by
      rw [but.2 _ (Nat.ne_of_gt e0)]
      exact pair
    have okp : ObjOk X.prog X.w (upd H s.heap.objs.size (.tup [.int (k : Nat), y])) h2 s.heap.objs.size (.tup [.int (k : Nat), y]) := by
      refine ⟨?_, [.int k tk, v], .cons ⟨tk, rfl⟩ (.cons ry .nil), _, pair2, rfl, _, rfl⟩
      show 2 ≤ sizeLine
      decide
    have old : ∀ b ob, b ∉ [e, j] → s.heap.get? b = some ob → h2.get? b = some ob := fun b ob nb q => by
      have b1 : b ≠ e := fun z => nb (by simp [z])
      have b2 : b ≠ j := fun z => nb (by simp [z])
      rw [but.2 b b1]
      exact same b ob b1 b2 q
    have I2 := I.turnedNew (t' := tk + 1) (ch := [e, j]) old fr (Nat.le_refl _) okp
    refine ⟨.ref s.heap.objs.size, _, I2, rfl, ⟨_, y, rfl, I.hok.fresh (Nat.le_refl _), rfl, fun ys q => ?_⟩, ⟨⟨v, ?_⟩, ?_, nej⟩, fun b hb => ?_⟩
    · rw [I.tuple_inj q sq]
      exact hy
    · rw [show ((k + 1 : Nat) : Int) = (k : Int) + 1 from Int.natCast_succ k]
      exact back
    · exact next.1.at fun oj q => (but.2 j nej.symm).trans q
    · rw [upd_ne (Nat.ne_of_lt (young b hb))]
      exact (fr b hb).1
  done := by
    intro X eP ew eK calm k pins s σ H Ex I fr E stop
    subst eP
    subst ew
    subst eK
    obtain ⟨xs, sq, rfl⟩ := stop
    obtain ⟨vs, rel, tup, _⟩ := I.tuple sq
    obtain ⟨nj, _⟩ := EnumAt.apart E tup
    obtain ⟨⟨o, he⟩, hj, _⟩ := E
    have src := PySem.Draws.tuple (prog := X.prog) (w := X.w) (A := X.A.in1) (I.ok.hd calm) j a nj vs.toArray
    obtain ⟨g0, g1, _, g3, g4, g5⟩ := fr j (List.mem_cons_of_mem _ (List.mem_singleton.mpr rfl))
    have all : xs.length = vs.toArray.size := by
      rw [rel.length]
      simp
    rw [all] at he hj
    exact wpAny_pyNext_enum_endD src he ⟨hj, tup⟩ fun h1 but => ⟨rfl, I.turned (t' := s.toks) (fun b ob nb q => but b ob nb q) g0 g1 g3 g4 g5⟩
  self := fun A k s Q E x h => by
    obtain ⟨⟨_, he⟩, _⟩ := x
    exact wpAny_pyIter_enum he h
/-- enumerate(e), e a tuple -/
def iEnumT (K : PySem.W.Frag) (ta : TA) : TI := fun σ H R => ta σ H fun vs H1 => ∃ a xs, vs = [.ref a] ∧ SqT K H1 a xs ∧ R (IteT K a) H1
theorem pi_enumT {X : Cx} {x : Expr} {ta : TA} {p q tp : Pos} {es : List Expr} {c : Nat} (g : Gl X "enumerate") (m : X.mg "enumerate" = none) (ha : PA X [x] ta) (one : starEach [x] X.env = [(false, eval x X.env)] := by rfl) :
    PI X (.Tuple es c tp) (.Call (.Name "enumerate" p) [x] [] q) (iEnumT X.K ta) where
  run := fun pins s σ H R I h => by
    have arg := thn (ha.run q pins s σ H _ I h) (Q' := fun us s1 => wpAny (model X.prog X.w) X.A (call (.type "enumerate") us) (fun v s2 => wpAny (model X.prog X.w) X.A (pyIter v) (PIE X pins σ (.Tuple es c tp) R) X.xe s2) X.xe s1) fun us s1 got => by
      obtain ⟨vs, H1, I1, rel, a, xs, rfl, sq, rest⟩ := got
      obtain ⟨u, rfl, ru⟩ : ∃ u, us = [u] ∧ RelV (.ref a) u := by
        cases rel with
        | cons r1 r2 =>
          cases r2
          exact ⟨_, rfl, r1⟩
      cases (show u = Value.ref a from ru)
      obtain ⟨items, _, tup, _⟩ := I1.tuple sq
      refine call_enumT tup fun h2 he hj size same => wpAny_pyIter_enum he ?_
      have young : ∀ b ∈ [s1.heap.objs.size + 1, s1.heap.objs.size], s1.heap.objs.size ≤ b := fun b hb => by
        rcases List.mem_cons.mp hb with z | z
        · omega
        · rw [List.mem_singleton.mp z]
          exact Nat.le_refl _
      exact ⟨_, _, _, _, H1, rfl, I1.kept (t' := s1.toks) same, turn_enumT a _ _, ⟨⟨.none, he⟩, hj, Nat.succ_ne_self _⟩, fun b hb => I1.fpOk (young b hb) (I1.hok.fresh (young b hb)), rest⟩
    exact Call_ (ld_blt I g m boot_enumerate (PyProof.Rows.callWith_type1 arg one rfl))
theorem walk_enumT {K : PySem.W.Frag} {a : Addr} {xs : List V} : Walk (IteT K a) xs.length (fun H => SqT K H a xs) (YPair (fun i => some (.int (i : Nat))) (fun i => xs[i]?)) where
  goes := fun i _ lt sq => ⟨xs, xs[i], sq, List.getElem?_eq_getElem lt⟩
  stops := fun _ sq => ⟨xs, sq, rfl⟩
  yields := fun i H v H' _ sq y => by
    obtain ⟨q, z, e1, e2, e3, e4⟩ := y
    exact ⟨q, .int (i : Nat), z, e1, e2, e3, rfl, e4 xs sq⟩
end Kv

set_option Elab.async false
set_option linter.all false
set_option maxRecDepth 100000
set_option maxHeartbeats 8000000
namespace Cm
open PySem PySem.Spec PyProof.Rows L2 Kv
/-! ### a say is made -/
/-- the names that make a difference, in order -/
def keptTo (ns : List Str) (t : Nat) (i : Nat) : List Str := ((List.range i).filter fun p => Tab.makesDiff ns.length t p).map fun p => ns.getD p ""
def keptOf (ns : List Str) (t : Nat) : List Str := keptTo ns t ns.length
theorem keptTo_succ (ns : List Str) (t i : Nat) : keptTo ns t (i + 1) = keptTo ns t i ++ (if Tab.makesDiff ns.length t i then [ns.getD i ""] else []) := by
  unfold keptTo
  rw [List.range_succ, List.filter_append, List.map_append]
  by_cases h : Tab.makesDiff ns.length t i <;> simp [h]
theorem keptTo_len (ns : List Str) (t i : Nat) : (keptTo ns t i).length ≤ i := by
  unfold keptTo
  rw [List.length_map]
  have h := List.length_filter_le (fun p => Tab.makesDiff ns.length t p) (List.range i)
  rwa [List.length_range] at h
theorem kept_nodup {ns : List Str} (h : ns.Nodup) (t : Nat) : (keptOf ns t).Nodup := by
  unfold keptOf keptTo
  have nd : ((List.range ns.length).filter fun p => Tab.makesDiff ns.length t p).Nodup := List.Nodup.sublist List.filter_sublist List.nodup_range
  refine List.pairwise_map.mpr (List.Pairwise.imp_of_mem (fun {p q} hp hq ne e => ne ?_) nd)
  have p1 := List.mem_range.mp (List.mem_filter.mp hp).1
  have q1 := List.mem_range.mp (List.mem_filter.mp hq).1
  have e2 : ns[p] = ns[q] := by
    rw [List.getD_eq_getElem?_getD, List.getD_eq_getElem?_getD, List.getElem?_eq_getElem p1, List.getElem?_eq_getElem q1] at e
    exact e
  have a1 := Tab.idxOf_nodup h (List.getElem?_eq_getElem p1)
  have a2 := Tab.idxOf_nodup h (List.getElem?_eq_getElem q1)
  rw [e2] at a1
  exact a1.symm.trans a2
theorem kept_mem {ns : List Str} {t : Nat} {m : Str} (h : m ∈ keptOf ns t) : m ∈ ns := by
  obtain ⟨p, hp, e⟩ := List.mem_map.mp h
  have lt := List.mem_range.mp (List.mem_filter.mp hp).1
  rw [List.getD_eq_getElem?_getD, List.getElem?_eq_getElem lt] at e
  have e2 : ns[p] = m := e
  rw [← e2]
  exact List.getElem_mem lt
/-- the table told over other names -/
def spOver (K : PySem.W.Frag) : Sp := fun vs H Q _ => ∃ (a b : Addr) (t : Nat) (ns ws : List Str), vs = [.ref a, natV t, .ref b] ∧ SqT K H a (ns.map V.str) ∧ SqT K H b (ws.map V.str) ∧ ns.Nodup ∧ ws.Nodup ∧ ns.length ≤ 6 ∧ ws.length ≤ 6 ∧ t < 2 ^ (2 ^ ns.length) ∧ (∀ n ∈ ns, isName n = true) ∧ (∀ n ∈ ws, isName n = true) ∧
  ∀ H', Same H H' → Q (natV (Tab.over ns t ws)) H'
def sayF (k : Addr) (t : Nat) : List (Str × V) := [("_names", .ref k), ("_table", natV t)]
def spInit (K : PySem.W.Frag) (C : Addr) : Sp := fun vs H Q _ => ∃ (x dx a : Addr) (t : Nat) (ns : List Str), vs = [.ref x, .ref a, natV t] ∧ H x = some (.ins C dx []) ∧ SqT K H a (ns.map V.str) ∧ ns.Nodup ∧ ns.length ≤ 6 ∧ t < 2 ^ (2 ^ ns.length) ∧ (∀ n ∈ ns, isName n = true) ∧
  ∀ (k : Addr) (H' : Hp), H k = none → H' k = some (.tup ((keptOf ns t).map V.str)) → H' x = some (.ins C dx (sayF k (Tab.over ns t (keptOf ns t)))) → (∀ b o, H b = some o → b ≠ x → H' b = some o) → Q .non H'
def rLenK (K : PySem.W.Frag) : List V → Hp → VK → Prop := fun xs H Q => ∃ p ys, xs = [.ref p] ∧ (SqL K H p ys ∨ SqT K H p ys) ∧ Q (.int ys.length) H
section
variable {P : Program} {w : World} {K : PySem.W.Frag} {mg : Str → Option Value} {base : Heap}
theorem scInit : FnScope ["self", "names", "table", "kept", "place", "name"] ["self", "names", "table"] (defScope m_Say_init) := ⟨rfl, rfl, rfl, by decide +kernel, rfl, by decide +kernel, by decide +kernel⟩
theorem ok_init {f C : Addr} {fd : FuncData} (W : Dn P w K mg base "makes_difference" ["count", "table", "place"] 4 (spDiff K)) (W2 : Dn P w K mg base "table_over" ["names", "table", "wanted"] 4 (spOver K)) (mT : mg "tuple" = none) (mE : mg "enumerate" = none) (mL : mg "len" = none)
    (cl : Cls K C) (n1 : NoAttr K C "_names") (n2 : NoAttr K C "_table") (F : Fun K "__init__" "Say.__init__" m_Say_init f fd) : FnOk P w K mg base CX0 5 f fd ["self", "names", "table"] (spInit K C) := by
  obtain ⟨fW, fdW, GW, mW, kW, bW⟩ := W.ex
  obtain ⟨fV, fdV, GV, mV, kV, bV⟩ := W2.ex
  refine F.ok scInit (fun vs H Q E h => ?_) (fun cdv A outer s H vs Q E hr h => ?_)
  · obtain ⟨x, dx, a, t, ns, rfl, _⟩ := h
    rfl
  · obtain ⟨x, dx, a, t, ns, rfl, hx, hA, nd, hn, ht, okn, k⟩ := h
    refine ⟨_, pss_cons (ps_set (i := 3) scInit.nd rfl (Or.inl rfl) (pe_callTy call_tuple_of (by rfl) mT (by decide +kernel) (pa_cons (pe_lc (own := [("place", 4), ("name", 5)]) (g := gTup K 2 (gCons (gName 4) (gCons (gName 5) gNil)))
        (tt := tB (tCall (spDiff K) [] E0 (tCons (tCB (rLenK K) (tCons (tVar 1) tNil)) (tCons (tVar 2) (tCons (tVar 4) tNil))))) (by rfl) scInit.nd (pi_enumT (by rfl) mE (pa_cons (pv 1) pa_nil))
        (blkOk_by (own := [("place", 4), ("name", 5)]) (N := ["self", "names", "table", "kept", "place", "name"]) (sc := defScope m_Say_init) (by decide +kernel))
        (fun _ _ _ _ _ => pg_tup (by rfl) (pgs_cons (pg_name (i := 4) scInit.nd rfl (Or.inl rfl)) (pgs_cons (pg_name (i := 5) scInit.nd rfl (Or.inl rfl)) pgs_nil)))
        (fun _ _ _ _ _ => pts_one (pt_val (pe_call GW hr rfl mW kW bW .nil pass0 (pa_cons (pe_callB call_len_seq (by rfl) mL PySem.boot_len (pa_cons (pv 1) pa_nil)) (pa_cons (pv 2) (pa_cons (pv 4) pa_nil))))))
        (fun _ _ _ _ _ => pv 5)) pa_nil)))
      (pss_cons (ps_fld (pv 0) (pv 3) rfl)
      (pss_one (ps_fld (pv 0) (pe_call GV hr rfl mV kV bV .nil pass0 (pa_cons (pv 1) (pa_cons (pv 2) (pa_cons (pv 3) pa_nil)))) rfl))), ?_⟩
    have hl : (ns.map V.str).length = ns.length := List.length_map _
    refine ⟨_, rfl, a, _, rfl, hA, fun D hD => ?_⟩
    refine lc_it walk_enumT (fun i H' => Same H H' ∧ H' D = some (.lst ((keptTo ns t i).map V.str))) ⟨same_step (Same.refl H) hD, upd_same⟩ (fun i H' _ z => sqT_same hA z.1) ?_ ?_
    · rintro i v H1 H2 lt ⟨sH, hL⟩ ⟨T, p1, p2, rfl, hT, rfl, e1, e2⟩
      cases e1
      replace e2 : (ns.map V.str)[i]? = some p2 := e2
      rw [List.getElem?_map] at e2
      obtain ⟨n, hn', rfl⟩ := Option.map_eq_some_iff.mp e2
      rw [hl] at lt
      have nDT : D ≠ T := ne_of_none hL hT
      have s2 : Same H (upd H1 T (.tup [.int (i : Nat), .str n])) := same_step sH hT
      have hL2 : upd H1 T (.tup [.int (i : Nat), .str n]) D = some (.lst ((keptTo ns t i).map V.str)) := by
        rw [upd_ne nDT]
        exact hL
      have hT2 : upd H1 T (.tup [.int (i : Nat), .str n]) T = some (.tup [.int (i : Nat), .str n]) := upd_same
      generalize upd H1 T (.tup [.int (i : Nat), .str n]) = H2 at *
      refine ⟨T, _, rfl, SqT.of hT2, rfl, _, _, rfl, _, _, rfl, rfl, rfl, ?_⟩
      refine ⟨_, rfl, a, _, rfl, .inr (sqT_same hA s2), _, rfl, _, rfl, ns.length, t, i, ?_, hn, lt, fun H3 s3 => ⟨_, rfl, ?_⟩⟩
      · rw [hl]
        rfl
      have en : ns.getD i "" = n := by
        rw [List.getD_eq_getElem?_getD, hn']
        rfl
      have hL3 := s3 D _ hL2
      have s4 : Same H H3 := fun b o z => s3 b o (s2 b o z)
      cases hd : Tab.makesDiff ns.length t i with
      | false =>
        refine iteF ⟨s4, ?_⟩
        rw [keptTo_succ, hd]
        simpa using hL3
      | true =>
        refine iteT ⟨_, rfl, _, hL3, ?_, same_over s4 hD, ?_⟩
        · rw [List.length_map]
          have h1 := keptTo_len ns t i
          have h2 : 7 ≤ sizeLine := by decide
          omega
        · rw [upd_same, keptTo_succ, hd, if_pos rfl, List.map_append, en]
          rfl
    · rintro H1 ⟨sH, hL⟩
      rw [hl] at hL
      refine ⟨D, _, rfl, .inl ⟨SqL.of hL, fun kk hk => ?_⟩⟩
      have s2 := same_step (o := .tup ((keptOf ns t).map V.str)) sH hk
      have hk2 : upd H1 kk (.tup ((keptOf ns t).map V.str)) kk = some (.tup ((keptOf ns t).map V.str)) := upd_same
      have hk0 : H kk = none := sH.free hk
      have e0 : (.tup ((keptTo ns t ns.length).map V.str) : HO) = .tup ((keptOf ns t).map V.str) := rfl
      rw [e0]
      generalize upd H1 kk (.tup ((keptOf ns t).map V.str)) = H2 at *
      have hx2 := s2 x _ hx
      refine ⟨_, rfl, _, rfl, x, C, dx, _, rfl, hx2, cl, n1, (by show 0 < 1000; decide), ?_⟩
      have f1 : putF "_names" (.ref kk) [] = [(("_names" : Str), V.ref kk)] := rfl
      have kx : kk ≠ x := fun z => by
        rw [z] at hk0
        rw [hk0] at hx
        cases hx
      have s3 : ∀ b o, H b = some o → b ≠ x → upd H2 x (.ins C dx (putF "_names" (.ref kk) [])) b = some o := fun b o z nb => by
        rw [upd_ne nb]
        exact s2 b o z
      have hk3 : upd H2 x (.ins C dx (putF "_names" (.ref kk) [])) kk = some (.tup ((keptOf ns t).map V.str)) := by
        rw [upd_ne kx]
        exact hk2
      have hx3 : upd H2 x (.ins C dx (putF "_names" (.ref kk) [])) x = some (.ins C dx ([("_names", V.ref kk)] : List (Str × V))) := by rw [upd_same, f1]
      have hA3 : SqT K (upd H2 x (.ins C dx (putF "_names" (.ref kk) []))) a (ns.map V.str) := by
        rcases hA with hA | hA
        · left
          rcases hA with hA | ⟨o, hA⟩
          · refine .inl (s3 _ _ hA fun z => ?_)
            rw [z, hx] at hA
            cases hA
          · refine .inr ⟨o, s3 _ _ hA fun z => ?_⟩
            rw [z, hx] at hA
            cases hA
        · exact .inr hA
      generalize upd H2 x (.ins C dx (putF "_names" (.ref kk) [])) = H3 at *
      refine ⟨_, rfl, _, rfl, _, rfl, a, kk, t, ns, keptOf ns t, rfl, hA3, SqT.of hk3, nd, kept_nodup nd t, hn, Nat.le_trans (keptTo_len ns t ns.length) hn, ht, okn, fun n hm => okn n (kept_mem hm), fun H4 s4 => ?_⟩
      refine ⟨_, rfl, x, C, dx, _, rfl, s4 _ _ hx3, cl, n2, (by show 1 < 1000; decide), ?_⟩
      have f2 : putF "_table" (natV (Tab.over ns t (keptOf ns t))) [(("_names" : Str), V.ref kk)] = sayF kk (Tab.over ns t (keptOf ns t)) := rfl
      rw [f2]
      refine k kk _ hk0 ?_ upd_same fun b o z nb => ?_
      · rw [upd_ne kx]
        exact s4 _ _ hk3
      · rw [upd_ne nb]
        exact s4 _ _ (s3 b o z nb)
end
end Cm

set_option Elab.async false
set_option linter.all false
set_option maxRecDepth 100000
set_option maxHeartbeats 8000000
/-! Mathematics: names in order, says of a normal form. -/
namespace Cm
open PySem PySem.Spec PyProof.Rows L2
def leS (a b : Str) : Prop := a.cps.toList ≤ b.cps.toList
theorem leS_trans {a b c : Str} (h : leS a b) (h' : leS b c) : leS a c := List.le_trans h h'
theorem leS_antisymm {a b : Str} (h : leS a b) (h' : leS b a) : a = b := by
  have e : a.cps.toList = b.cps.toList := List.le_antisymm h h'
  cases a
  cases b
  exact congrArg Str.mk (Array.toList_inj.mp e)
theorem rising_pw : ∀ (l : List Str) (p : Str), risingS p l = true → (p :: l).Pairwise leS
  | [], p, _ => List.pairwise_singleton _ _
  | x :: l, p, h => by
    unfold risingS at h
    obtain ⟨h1, h2⟩ := Bool.and_eq_true_iff.mp h
    have ih := rising_pw l x h2
    have px : leS p x := by
      rw [ltCps_eq] at h1
      intro q
      rw [decide_eq_true q] at h1
      cases h1
    refine List.pairwise_cons.mpr ⟨fun y hy => ?_, ih⟩
    rcases List.mem_cons.mp hy with z | z
    · rw [z]
      exact px
    · exact leS_trans px ((List.pairwise_cons.mp ih).1 y z)
theorem sorted_pw {l : List Str} (h : sortedS l = true) : l.Pairwise leS := by
  cases l with
  | nil => exact .nil
  | cons x l => exact rising_pw l x h
theorem ordered_ext : ∀ {l m : List Str}, l.Pairwise leS → m.Pairwise leS → l.Nodup → m.Nodup → (∀ x, x ∈ l ↔ x ∈ m) → l = m
  | [], [], _, _, _, _, _ => rfl
  | [], y :: m, _, _, _, _, h => by
    have := (h y).mpr (List.mem_cons_self ..)
    cases this
  | x :: l, [], _, _, _, _, h => by
    have := (h x).mp (List.mem_cons_self ..)
    cases this
  | x :: l, y :: m, a, b, c, d, h => by
    obtain ⟨a1, a2⟩ := List.pairwise_cons.mp a
    obtain ⟨b1, b2⟩ := List.pairwise_cons.mp b
    obtain ⟨c1, c2⟩ := List.nodup_cons.mp c
    obtain ⟨d1, d2⟩ := List.nodup_cons.mp d
    have e : x = y := by
      rcases List.mem_cons.mp ((h x).mp (List.mem_cons_self ..)) with z | z
      · exact z
      · rcases List.mem_cons.mp ((h y).mpr (List.mem_cons_self ..)) with q | q
        · exact q.symm
        · exact leS_antisymm (a1 y q) (b1 x z)
    subst e
    have t : l = m := ordered_ext a2 b2 c2 d2 fun z => by
      constructor
      · intro hz
        rcases List.mem_cons.mp ((h z).mp (List.mem_cons_of_mem _ hz)) with q | q
        · rw [q] at hz
          exact absurd hz c1
        · exact q
      · intro hz
        rcases List.mem_cons.mp ((h z).mpr (List.mem_cons_of_mem _ hz)) with q | q
        · rw [q] at hz
          exact absurd hz d1
        · exact q
    rw [t]
/-! ### the kept names -/
theorem all_at (ns : List Str) : ((List.range ns.length).map fun p => ns.getD p "") = ns := by
  apply List.ext_getElem
  · simp
  · intro i h1 h2
    simp [List.getD_eq_getElem?_getD, List.getElem?_eq_getElem h2]
theorem kept_sub (ns : List Str) (t : Nat) : (keptOf ns t).Sublist ns := by
  have h : (keptOf ns t).Sublist ((List.range ns.length).map fun p => ns.getD p "") := List.Sublist.map _ List.filter_sublist
  rwa [all_at] at h
theorem mem_kept {ns : List Str} {t p : Nat} {m : Str} (h : ns.Nodup) (e : ns[p]? = some m) : m ∈ keptOf ns t ↔ Tab.makesDiff ns.length t p = true := by
  have hp := (List.getElem?_eq_some_iff.mp e).1
  have at_ : ∀ q, q < ns.length → ns.getD q "" = m → q = p := fun q hq z => by
    have e2 : ns[q]? = some m := by
      rw [List.getD_eq_getElem?_getD, List.getElem?_eq_getElem hq] at z
      rw [List.getElem?_eq_getElem hq]
      exact congrArg some z
    rw [← Tab.idxOf_nodup h e2, ← Tab.idxOf_nodup h e]
  constructor
  · intro hm
    obtain ⟨q, hq, z⟩ := List.mem_map.mp hm
    obtain ⟨h1, h2⟩ := List.mem_filter.mp hq
    rw [← at_ q (List.mem_range.mp h1) z]
    exact h2
  · intro hd
    refine List.mem_map.mpr ⟨p, List.mem_filter.mpr ⟨List.mem_range.mpr hp, hd⟩, ?_⟩
    rw [List.getD_eq_getElem?_getD, e]
    rfl
/-- what is not kept may be set to not holding, from the place j on -/
theorem ev_drop {ns : List Str} {t : Nat} (h : ns.Nodup) (c : Str → Bool) : ∀ j, j ≤ ns.length → Tab.ev ns t (fun n => (decide (n ∈ keptOf ns t) || decide (j ≤ ns.idxOf n)) && c n) = Tab.ev ns t c
  | 0, _ => Tab.ev_congr fun n hn => by simp
  | j + 1, hj => by
    have hj' : j < ns.length := hj
    have e : ns[j]? = some ns[j] := List.getElem?_eq_getElem hj'
    have ij := Tab.idxOf_nodup h e
    rw [← ev_drop h c j (Nat.le_of_lt hj')]
    by_cases hm : ns[j] ∈ keptOf ns t
    · refine Tab.ev_congr fun n hn => ?_
      by_cases hk : n ∈ keptOf ns t
      · simp [hk]
      · have ne : ns.idxOf n ≠ j := fun z => by
          have hl := List.idxOf_lt_length_of_mem hn
          have e2 : ns[ns.idxOf n]? = some n := by rw [List.getElem?_eq_getElem hl, List.getElem_idxOf hl]
          rw [z, e] at e2
          rw [← Option.some.inj e2] at hk
          exact hk hm
        have q : decide (j + 1 ≤ ns.idxOf n) = decide (j ≤ ns.idxOf n) := by
          by_cases z : j ≤ ns.idxOf n
          · have : j + 1 ≤ ns.idxOf n := by omega
            simp [z, this]
          · have : ¬ j + 1 ≤ ns.idxOf n := by omega
            simp [z, this]
        rw [q]
    · have nd : Tab.makesDiff ns.length t j = false := by
        cases z : Tab.makesDiff ns.length t j with
        | false => rfl
        | true => exact absurd ((mem_kept h e).mpr z) hm
      rw [← Tab.no_diff h e nd (fun n => (decide (n ∈ keptOf ns t) || decide (j ≤ ns.idxOf n)) && c n) false]
      refine Tab.ev_congr fun n hn => ?_
      by_cases z : n = ns[j]
      · rw [z, Tab.upd_same, ij]
        have : ¬ j + 1 ≤ j := by omega
        simp [hm, this]
      · rw [Tab.upd_ne z]
        have ne : ns.idxOf n ≠ j := fun q => by
          have hl := List.idxOf_lt_length_of_mem hn
          have e2 : ns[ns.idxOf n]? = some n := by rw [List.getElem?_eq_getElem hl, List.getElem_idxOf hl]
          rw [q, e] at e2
          exact z (Option.some.inj e2).symm
        have q : decide (j + 1 ≤ ns.idxOf n) = decide (j ≤ ns.idxOf n) := by
          by_cases z : j ≤ ns.idxOf n
          · have : j + 1 ≤ ns.idxOf n := by omega
            simp [z, this]
          · have : ¬ j + 1 ≤ ns.idxOf n := by omega
            simp [z, this]
        rw [q]
/-- the say as it is made tells what its table tells -/
theorem ev_made {ns : List Str} {t : Nat} (h : ns.Nodup) (c : Str → Bool) : Tab.ev (keptOf ns t) (Tab.over ns t (keptOf ns t)) c = Tab.ev ns t c := by
  rw [Tab.ev_over (kept_nodup h t), ← ev_drop h c ns.length (Nat.le_refl _)]
  refine Tab.ev_congr fun n hn => ?_
  have hl := List.idxOf_lt_length_of_mem hn
  have : ¬ ns.length ≤ ns.idxOf n := by omega
  simp [this]
/-- names in order, each of which makes a difference -/
structure Norm (ns : List Str) (t : Nat) : Prop where
  nd : ns.Nodup
  pw : ns.Pairwise leS
  six : ns.length ≤ 6
  ok : ∀ n ∈ ns, isName n = true
  lt : t < 2 ^ (2 ^ ns.length)
  diff : ∀ m ∈ ns, ∃ c, Tab.ev ns t (Tab.upd c m true) ≠ Tab.ev ns t (Tab.upd c m false)
theorem norm_made {ns : List Str} {t : Nat} (h : ns.Nodup) (pw : ns.Pairwise leS) (six : ns.length ≤ 6) (ok : ∀ n ∈ ns, isName n = true) : Norm (keptOf ns t) (Tab.over ns t (keptOf ns t)) where
  nd := kept_nodup h t
  pw := List.Pairwise.sublist (kept_sub ns t) pw
  six := Nat.le_trans (keptTo_len ns t ns.length) six
  ok := fun n hm => ok n (kept_mem hm)
  lt := Tab.over_lt _ _ _
  diff := fun m hm => by
    have hn := (kept_sub ns t).subset hm
    have hl := List.idxOf_lt_length_of_mem hn
    have e : ns[ns.idxOf m]? = some m := by rw [List.getElem?_eq_getElem hl, List.getElem_idxOf hl]
    obtain ⟨c, hc⟩ := (Tab.makesDiff_iff h e).mp ((mem_kept h e).mp hm)
    exact ⟨c, by rw [ev_made h, ev_made h]; exact hc⟩
theorem norm_mem {ns ms : List Str} {t u : Nat} (a : Norm ns t) (e : ∀ c, Tab.ev ns t c = Tab.ev ms u c) {m : Str} (h : m ∈ ns) : m ∈ ms := by
  obtain ⟨c, hc⟩ := a.diff m h
  apply Classical.byContradiction
  intro no
  apply hc
  rw [e, e]
  refine Tab.ev_congr fun n hn => ?_
  have ne : n ≠ m := fun z => no (z ▸ hn)
  rw [Tab.upd_ne ne, Tab.upd_ne ne]
/-- two says of normal form that tell the same are the same -/
theorem norm_ext {ns ms : List Str} {t u : Nat} (a : Norm ns t) (b : Norm ms u) (e : ∀ c, Tab.ev ns t c = Tab.ev ms u c) : ns = ms ∧ t = u := by
  have z : ns = ms := ordered_ext a.pw b.pw a.nd b.nd fun m => ⟨norm_mem a e, norm_mem b fun c => (e c).symm⟩
  subst z
  exact ⟨rfl, Tab.table_ext a.nd a.lt b.lt e⟩
end Cm

set_option Elab.async false
set_option linter.all false
set_option maxRecDepth 100000
set_option maxHeartbeats 8000000
/-! a != b where the class has an own == and none for != . -/
namespace Kv
open PySem PySem.Spec PyProof.Rows L2
section
variable {X : Cx} {C g : Addr} {fd : FuncData} {ps : List Str} {sp : Sp} {CX : CXT} {n : Nat} {E : XK}
/-- a def's promise, called from a builtin that the caller called -/
theorem run_in1 {pins : List (Addr × Obj)} {σ : L2.St} {H : Hp} {s : Shared} {Q : VK} {us : List Value} {vs : List V} (F : FnOk X.prog X.w X.K X.mg X.base CX n g fd ps sp) (hr : Room (n + 1) X.A) (hb : Binds X.K fd ps []) (hx : Passes CX X E)
    (I : Inv X pins σ H s) (r : Vals vs us) (h : sp vs H Q E) : wpAny (model X.prog X.w) X.A.in1 (call (.ref g) us) (EP X pins σ Q) X.xe s := by
  have hl : us.length = ps.length := by rw [← r.length]; exact F.len _ _ _ _ h
  have b := hb s us I.kIn (by simpa using hl)
  rw [List.append_nil] at b
  refine wpAny_call (codeAny_mono (F.run X.A.in1 X.stack s H ⟨us, []⟩ us vs Q E hr.in1 I.env0.in1 b r h) fun z s' hq => ?_)
  cases z with
  | error e => exact hx pins σ H s e s' I hq
  | ok fl => cases fl <;> first | exact I.after hq | exact False.elim hq
end
section
variable {prog : Program} {w : World} {A : Around} {E : Value → Shared → Prop} {s : Shared} {K : PySem.W.Frag} {x C f : Addr} {ox : Obj} {od : Option Obj} {b : Value}
theorem entry_ne {Q : Fin → Shared → Prop} (hu : A.units < cLine) (X : K.In s.heap) (I : PySem.W.InstAt s.heap x ox C od) (hs : PySem.W.findIn K (.ref C) "__eq__" = some (some (.ref f))) (hf : PySem.W.isFn K (.ref f) = true)
    (h : wpAny (model prog w) A (call (.ref f) [.ref x, b]) (fun v s' => ∃ c, v = .bool c ∧ Q (.done (.ret (.bool (!c)))) s') E s) :
    wpAny (model prog w) A (Builtin.«object.__ne__» ⟨[.ref x, b], []⟩) Q E s := by
  unfold Builtin.«object.__ne__»
  refine wpAny_bind (wpAny_of_eq (a := ((Value.ref x : Value), [b])) ?_ ?_)
  · first
      | rfl
      | (simp only [slotArgs]; rfl)
  refine wpAny_bind (wpAny_cRoomFor hu ?_)
  refine wpAny_bind (m := callSpecialIfBound? (.ref x) (Str.ofString "__eq__") [b]) (PySem.W.ifBound_K X I hs hf (wpAny_mono h (fun v s' hv => ?_) fun _ _ e => e))
  obtain ⟨c, rfl, q⟩ := hv
  exact wpAny_bind (wpAny_truthy_bool (wpAny_pure q))
theorem ifBound_ne {args : List Value} {Q : Option Value → Shared → Prop} (X : K.In s.heap) (I : PySem.W.InstAt s.heap x ox C od) (hs : PySem.W.findIn K (.ref C) "__ne__" = some (some (.builtin "object.__ne__")))
    (h : wpAny (model prog w) A (call (.builtin "object.__ne__") (.ref x :: args)) (fun v => Q (some v)) E s) : wpAny (model prog w) A (callSpecialIfBound? (.ref x) "__ne__" args) Q E s := by
  have bd := F.cmp_object.ne.bind (.ref x)
  have last : wpAny (model prog w) A (call (.builtin "object.__ne__") ([.ref x] ++ args) >>= fun v => pure (some v)) Q E s := wpAny_bind (wpAny_mono h (fun v s' z => wpAny_pure z) fun _ _ z => z)
  simp only [callSpecialIfBound?, bindSpecialIfBound?]
  refine wpAny_holding (wpAny_bind (wpAny_bind (wpAny_bind (I.type.here ((PySem.W.looks_findIn X hs).here ?_)))))
  refine wpAny_bind (wpAny_askSetting (wpAny_ite ?_))
  split
  · exact wpAny_bind (wpAny_of_eq bd (wpAny_pure (by exact last)))
  · exact wpAny_tryCatch (wpAny_bind (wpAny_of_eq bd (wpAny_pure (by exact last))))
theorem rich_ne {tb : Value} {Q : Value → Shared → Prop} (hu : A.units + 1 < cLine) (X : K.In s.heap) (I : PySem.W.InstAt s.heap x ox C od) (hb : PySem.W.Looks (model prog w) s.heap (typeOf b) tb) (hn : PySem.W.notFirst K C tb = true)
    (hm : PySem.W.mroIn K C (.type "object") = some true) (hne : PySem.W.findIn K (.ref C) "__ne__" = some (some (.builtin "object.__ne__"))) (hs : PySem.W.findIn K (.ref C) "__eq__" = some (some (.ref f))) (hf : PySem.W.isFn K (.ref f) = true)
    (h : wpAny (model prog w) A.in1 (call (.ref f) [.ref x, b]) (fun v s' => ∃ c, v = .bool c ∧ Q (.bool (!c)) s') E s) : wpAny (model prog w) A (richCompare .NotEq (.ref x) b) Q E s := by
  have one : wpAny (model prog w) A (tryCompare (.ref x) "__ne__" b) (fun r s' => ∃ v, r = some v ∧ Q v s') E s := by
    unfold tryCompare
    refine wpAny_bind (ifBound_ne X I hne (wpAny_call (codeAny_call_builtin F.cmp_object.ne.plain F.cmpEntry_ne (PySem.W.check_slot F.cmpKind_ne F.cmpSplit_ne (I.type.andThen (PySem.W.looks_mroIn X hm)) (F.cmpArgs_ne _ _)
      (entry_ne (A := A.in1) (by show A.units + 1 < cLine; exact hu) X I hs hf (wpAny_mono h (fun v s' hv => ?_) fun _ _ e => e))))))
    obtain ⟨c, rfl, q⟩ := hv
    exact ⟨c, rfl, wpAny_pure ⟨_, rfl, q⟩⟩
  unfold richCompare
  simp only [oneThing_ref, cmpInfo_NotEq]
  refine wpAny_holding (wpAny_bind (wpAny_cRoomFor (Nat.lt_of_succ_lt hu) ?_))
  refine wpAny_bind (I.type.here (wpAny_bind (hb.here ?_)))
  have fin : wpAny (model prog w) A (tryCompare (.ref x) "__ne__" b) (fun r s' => ∃ v, r = some v ∧ Q v s') E s := one
  split
  · rename_i q
    have e : PySem.W.subIn K tb (.ref C) = some false := by
      rcases Bool.or_eq_true_iff.mp hn with e | e
      · rw [beq_iff_eq.mp e] at q
        simp at q
      · exact beq_iff_eq.mp e
    refine wpAny_bind ((PySem.W.looks_subIn X e).here ?_)
    rw [if_neg Bool.false_ne_true]
    refine wpAny_bind (m := tryCompare (.ref x) _ b) (wpAny_mono fin (fun r s' z => ?_) fun _ _ e => e)
    obtain ⟨v, rfl, hq⟩ := z
    exact wpAny_pure hq
  · refine wpAny_bind (wpAny_pure ?_)
    rw [if_neg Bool.false_ne_true]
    refine wpAny_bind (m := tryCompare (.ref x) _ b) (wpAny_mono fin (fun r s' z => ?_) fun _ _ e => e)
    obtain ⟨v, rfl, hq⟩ := z
    exact wpAny_pure hq
end
section
variable {X : Cx} {C g : Addr} {fd : FuncData} {ps : List Str} {sp : Sp} {CX : CXT} {n : Nat} {E : XK}
/-- x != y where the class has an own == that tells a truth value -/
def rNeI (K : PySem.W.Frag) (C : Addr) (sp : Sp) (E : XK) : R2 := fun x y H Q => ∃ a dx fs t, x = .ref a ∧ H a = some (.ins C dx fs) ∧ TyX K H y t ∧ PySem.W.notFirst K C t = true ∧ sp [.ref a, y] H (fun z H' => ∃ c, z = .bl c ∧ Q (.bl (!c)) H') E
theorem op_neI (hm : PySem.W.mroIn X.K C (.type "object") = some true) (hne : PySem.W.findIn X.K (.ref C) "__ne__" = some (some (.builtin "object.__ne__"))) (hs : PySem.W.findIn X.K (.ref C) "__eq__" = some (some (.ref g))) (hf : PySem.W.isFn X.K (.ref g) = true)
    (F : FnOk X.prog X.w X.K X.mg X.base CX n g fd ps sp) (hr : Room (n + 1) X.A) (hb : Binds X.K fd ps []) (hx : Passes CX X E) : OpR X (compareOp .NotEq) (rNeI X.K C sp E) := by
  intro pins s σ H x y v u Q I rx ry h
  obtain ⟨a, dx, fs, t, rfl, ha, ty, nf, q⟩ := h
  cases (show v = Value.ref a from rx)
  obtain ⟨od, J⟩ := ins_at I ha
  obtain ⟨Pk, kx, hP, _⟩ := kit_of I ry ty
  show wpAny _ _ (richCompare .NotEq (.ref a) u) _ _ _
  have un := hr.un
  refine rich_ne (tb := t) (by omega) I.kIn J (kx.ty _ _ I.kIn hP) nf hm hne hs hf ?_
  refine wpAny_mono (run_in1 (us := [.ref a, u]) (vs := [.ref a, y]) F hr hb hx I (.cons rfl (.cons ry .nil)) q) (fun w s' z => ?_) fun _ _ x => x
  obtain ⟨z', H', I', rz, c, rfl, qz⟩ := z
  cases (show w = Value.bool c from rz)
  exact ⟨c, rfl, .bl (!c), H', I', rfl, qz⟩
end
end Kv

set_option Elab.async false
set_option linter.all false
set_option maxRecDepth 100000
set_option maxHeartbeats 8000000
/-! C.m(e, ..), C.m(): a static method, read off its class -/
namespace Kv
open PySem PySem.Spec PyProof.Rows L2
/-- C.m is a static method: its record at p, its def at g -/
structure SMet (K : PySem.W.Frag) (C : Addr) (mc : Value) (m : Str) (p g : Addr) : Prop where
  ty : PySem.W.typeIn K (.ref C) = some mc
  rd : PySem.W.readsIn K C mc = true
  ga : PySem.W.specialIn K (.ref C) "__getattribute__" = some (some (.builtin "type.__getattribute__"))
  at_ : PySem.W.findCls K (.ref C) mc m = some (.get (.builtin "staticmethod.__get__") (.ref p) .none (.ref C))
  rc : ∃ rest, PySem.W.recIn K p "staticmethod" = some (.ref g :: rest)
  hd : PySem.W.handedIn (.ref g) = true
  kp : PySem.W.keepIn K (.ref g) = true
def tSm (C : Addr) (sp : Sp) (E : XK) (ta : TE) (t : TA) : TE := fun σ H Q => ta σ H fun x H1 => x = .ref C ∧ t σ H1 fun vs H2 => sp vs H2 Q E
section
variable {X : Cx} {C p g : Addr} {mc : Value} {m : Str} {fd : FuncData} {ps : List Str} {sp : Sp} {CX : CXT} {n : Nat} {E : XK} {o e : Expr} {es : List Expr} {ta : TE} {t : TA} {pos apos : Pos}
theorem get_sm {pl : Sem Bool} {pins : List (Addr × Obj)} {σ : L2.St} {H : Hp} {s : Shared} {A : Around} {Q : Value × List Value → Shared → Prop} {Ex : Value → Shared → Prop} (I : Inv X pins σ H s) (c : SMet X.K C mc m p g)
    (h : Inv X pins σ H { s with toks := s.toks + 1 } → Q (.ref g, []) { s with toks := s.toks + 1 }) : wpAny (model X.prog X.w) A (getMethod (.ref C) m pl) Q Ex s := by
  obtain ⟨m', hF⟩ := I.fr
  obtain ⟨rest, hrc⟩ := c.rc
  exact PySem.W.method_of_cls hF I.ok.mod.kin c.ga (PySem.W.cls_sm hF I.ok.mod.kin c.ty c.rd c.at_ hrc c.hd (h (I.tok _)))
theorem pe_smeth {pl : Sem Bool} (he : PE X o ta) (c : SMet X.K C mc m p g) (F : FnOk X.prog X.w X.K X.mg X.base CX n g fd ps sp) (hr : Room n X.A) (hb : Binds X.K fd ps []) (hx : Passes CX X E) (ha : PA X (e :: es) t)
    (hst : starEach (e :: es) X.env = (false, eval e X.env) :: starEach es X.env := by rfl) (hpl : (backTo pos (starEach es X.env)).any (·.1) = false := by rfl)
    (ht : eval (.Call (.Attribute o m apos) (e :: es) [] pos) X.env = (do
      let v ← eval o X.env
      standAt apos.atName
      let (f, first) ← holding [v] (getMethod v m pl)
      callWith pos f first (backTo pos (starEach (e :: es) X.env)) (backToKw pos (keywordEach [] X.env))) := by rfl) :
    PE X (.Call (.Attribute o m apos) (e :: es) [] pos) (tSm C sp E ta t) where
  run := fun pins s σ H Q I h => by
    refine PySem.W.methodCall_KW (pl := pl) (thn (he.run pins s σ H _ I h) fun u s1 got => ?_) ht
    obtain ⟨x, H1, I1, rx, rfl, q⟩ := got
    cases (show u = Value.ref C from rx)
    refine get_sm I1 c fun I2 => ?_
    refine PySem.W.callWith_K (first := []) (h₀ := X.base) I2.ok.mod.kin c.kp (thn (ha.run pos pins _ σ H1 _ I2 q) fun us s2 got => ?_) hst hpl
    obtain ⟨vs, H2, I3, rel, q2⟩ := got
    exact ⟨I3.kIn, run_fn F hr hb .nil hx I3 rel (by simpa using q2)⟩
theorem pe_smeth0 {pl : Sem Bool} (he : PE X o ta) (c : SMet X.K C mc m p g) (F : FnOk X.prog X.w X.K X.mg X.base CX n g fd ps sp) (hr : Room n X.A) (hb : Binds X.K fd ps []) (hx : Passes CX X E)
    (ht : eval (.Call (.Attribute o m apos) [] [] pos) X.env = (do
      let v ← eval o X.env
      standAt apos.atName
      let (f, first) ← holding [v] (getMethod v m pl)
      callWith pos f first (backTo pos (starEach [] X.env)) (backToKw pos (keywordEach [] X.env))) := by rfl) :
    PE X (.Call (.Attribute o m apos) [] [] pos) (tSm C sp E ta tNil) where
  run := fun pins s σ H Q I h => by
    refine PySem.W.methodCall_KW (pl := pl) (thn (he.run pins s σ H _ I h) fun u s1 got => ?_) ht
    obtain ⟨x, H1, I1, rx, rfl, q⟩ := got
    cases (show u = Value.ref C from rx)
    refine get_sm I1 c fun I2 => ?_
    exact PySem.W.callWith_K0 (first := []) I2.kIn c.kp (run_fn (us := []) (vs := []) F hr hb .nil hx I2 .nil (show sp [] H1 Q E from q))
end
end Kv

set_option Elab.async false
set_option linter.all false
set_option maxRecDepth 100000
set_option maxHeartbeats 8000000
namespace Cm
open PySem PySem.Spec PyProof.Rows L2 Kv
/-! ### says in the heap -/
def SayAt (H : Hp) (C a : Addr) (ns : List Str) (t : Nat) : Prop := ∃ dx k, H a = some (.ins C dx (sayF k t)) ∧ H k = some (.tup (ns.map V.str))
/-- a say stands at a, of names of U, that tells φ -/
def IsSay (H : Hp) (C a : Addr) (U : List Str) (φ : (Str → Bool) → Bool) : Prop := ∃ ns t, SayAt H C a ns t ∧ Norm ns t ∧ (∀ n ∈ ns, n ∈ U) ∧ ∀ c, Tab.ev ns t c = φ c
theorem SayAt.same {H H' : Hp} {C a : Addr} {ns : List Str} {t : Nat} (h : SayAt H C a ns t) (s : Same H H') : SayAt H' C a ns t := by
  obtain ⟨dx, k, h1, h2⟩ := h
  exact ⟨dx, k, s _ _ h1, s _ _ h2⟩
theorem IsSay.same {H H' : Hp} {C a : Addr} {U : List Str} {φ : (Str → Bool) → Bool} (h : IsSay H C a U φ) (s : Same H H') : IsSay H' C a U φ := by
  obtain ⟨ns, t, h1, h2⟩ := h
  exact ⟨ns, t, h1.same s, h2⟩
/-- what the top has left of the class of says -/
structure Sy (P : Program) (w : World) (K : PySem.W.Frag) (mg : Str → Option Value) (base : Heap) (C : Addr) : Prop where
  mgC : mg "Say" = some (.ref C)
  cl : Cls K C
  n1 : NoAttr K C "_names"
  n2 : NoAttr K C "_table"
  ty : ∀ (H : Hp) (a dx : Addr) (fs : List (Str × V)), H a = some (.ins C dx fs) → TyX K H (.ref a) (.ref C)
  kit : PySem.W.kitOne K (.ref C) (.ref C) = some true
  made : ∃ f fd, Mk K C f ∧ FnOk P w K mg base CX0 5 f fd ["self", "names", "table"] (spInit K C) ∧ Binds K fd ["self", "names", "table"] []
  isi : mg "isinstance" = none
  over : Dn P w K mg base "table_over" ["names", "table", "wanted"] 4 (spOver K)
  every : Dn P w K mg base "everywhere" ["count"] 1 spEvery
  isName : Dn P w K mg base "is_name" ["thing"] 1 (spIsName K)
  maskOf : Dn P w K mg base "mask_of" ["numbers"] 1 (spMask K)
  len : mg "len" = none
  list : mg "list" = none
  enum : mg "enumerate" = none
  merged : Dn P w K mg base "merged" ["one", "two"] 2 (spMerged K)
/-- a method of the class with its promise -/
structure Mn (P : Program) (w : World) (K : PySem.W.Frag) (mg : Str → Option Value) (base : Heap) (C : Addr) (x : Str) (ps : List Str) (k : Nat) (sp : Sp) : Prop where
  ex : ∃ f fd, Meth K C x f ∧ FnOk P w K mg base CX0 k f fd ps sp ∧ Binds K fd ps []
theorem sayF_names (k : Addr) (t : Nat) : (sayF k t).lookup ("_names" : Str) = some (V.ref k) := rfl
theorem sayF_table (k : Addr) (t : Nat) : (sayF k t).lookup ("_table" : Str) = some (natV t) := rfl
theorem sub_len : ∀ {l U : List Str}, l.Nodup → (∀ x ∈ l, x ∈ U) → l.length ≤ U.length
  | [], _, _, _ => Nat.zero_le _
  | x :: l, U, nd, h => by
    obtain ⟨h1, h2⟩ := List.nodup_cons.mp nd
    have hx := h x (List.mem_cons_self ..)
    have ih := sub_len (U := U.erase x) h2 fun y hy => by
      have ne : y ≠ x := fun z => h1 (z ▸ hy)
      exact (List.mem_erase_of_ne ne).mpr (h y (List.mem_cons_of_mem _ hy))
    rw [List.length_erase_of_mem hx] at ih
    have pos : 0 < U.length := List.length_pos_of_mem hx
    rw [List.length_cons]
    omega
/-! ### a say's table over other names -/
def spOverM (K : PySem.W.Frag) (C : Addr) : Sp := fun vs H Q _ => ∃ (a b : Addr) (ns ws : List Str) (t : Nat), vs = [.ref a, .ref b] ∧ SayAt H C a ns t ∧ Norm ns t ∧ SqT K H b (ws.map V.str) ∧ ws.Nodup ∧ ws.length ≤ 6 ∧ (∀ n ∈ ws, isName n = true) ∧ ∀ H', Same H H' → Q (natV (Tab.over ns t ws)) H'
section
variable {P : Program} {w : World} {K : PySem.W.Frag} {mg : Str → Option Value} {base : Heap} {C : Addr}
theorem scOverM : FnScope ["self", "names"] ["self", "names"] (defScope m_Say_over) := ⟨rfl, rfl, rfl, by decide +kernel, rfl, by decide +kernel, by decide +kernel⟩
theorem ok_overM {f : Addr} {fd : FuncData} (S : Sy P w K mg base C) (F : Fun K "over" "Say.over" m_Say_over f fd) : FnOk P w K mg base CX0 5 f fd ["self", "names"] (spOverM K C) := by
  obtain ⟨fV, fdV, GV, mV, kV, bV⟩ := S.over.ex
  refine F.ok scOverM (fun vs H Q E h => ?_) (fun cdv A outer s H vs Q E hr h => ?_)
  · obtain ⟨a, b, ns, ws, t, rfl, _⟩ := h
    rfl
  · obtain ⟨a, b, ns, ws, t, rfl, ⟨dx, k0, ha, hk⟩, nm, hB, nd, six, okw, k⟩ := h
    refine ⟨_, pss_one (ps_ret (pe_call GV hr rfl mV kV bV .nil pass0 (pa_cons (pe_fld (pv 0) rfl) (pa_cons (pe_fld (pv 0) rfl) (pa_cons (pv 1) pa_nil))))), ?_⟩
    exact ⟨_, rfl, a, C, dx, _, _, rfl, ha, S.cl, S.n1, sayF_names _ _, _, rfl, a, C, dx, _, _, rfl, ha, S.cl, S.n2, sayF_table _ _, _, rfl, k0, b, t, ns, ws, rfl, SqT.of hk, hB, nm.nd, nd, nm.six, six, nm.lt, nm.ok, okw, k⟩
/-- what two says tell together -/
def spBin (C : Addr) (h : Bool → Bool → Bool) : Sp := fun vs H Q _ => ∃ (a b : Addr) (U : List Str) (φ ψ : (Str → Bool) → Bool), vs = [.ref a, .ref b] ∧ IsSay H C a U φ ∧ IsSay H C b U ψ ∧ U.length ≤ 6 ∧
  ∀ x H', Same H H' → H x = none → IsSay H' C x U (fun c => h (φ c) (ψ c)) → Q (.ref x) H'
/-- a new say is made of names in order and a table -/
theorem made_ok {H : Hp} {U zs : List Str} {z : Addr} {t : Nat} {Q : VK} {E : XK} {χ : (Str → Bool) → Bool} (hz : SqT K H z (zs.map V.str)) (nd : zs.Nodup) (pw : zs.Pairwise leS) (hU : ∀ n ∈ zs, n ∈ U) (six : U.length ≤ 6) (okz : ∀ n ∈ zs, isName n = true) (ht : t < 2 ^ (2 ^ zs.length)) (ev : ∀ c, Tab.ev zs t c = χ c)
    (k : ∀ x H', Same H H' → H x = none → IsSay H' C x U χ → Q (.ref x) H') :
    ∀ x dx, H x = none → H dx = none → dx ≠ x → spInit K C [.ref x, .ref z, natV t] (upd (upd H dx (.own x)) x (.ins C dx [])) (fun v H2 => v = .non ∧ Q (.ref x) H2) E := by
  intro x dx hx hdx ne
  have l6 : zs.length ≤ 6 := Nat.le_trans (sub_len nd hU) six
  have s1 : Same H (upd (upd H dx (.own x)) x (.ins C dx [])) := same_step (same_step (Same.refl H) hdx) (by rw [upd_ne ne.symm]; exact hx)
  refine ⟨x, dx, z, t, zs, rfl, upd_same, sqT_same hz s1, nd, l6, ht, okz, fun k0 H' n0 hk hx' rest => ⟨rfl, k x H' (fun b o e => ?_) hx ⟨_, _, ⟨dx, k0, hx', hk⟩, norm_made nd pw l6 okz, fun n hn => hU n ((kept_sub zs t).subset hn), fun c => ?_⟩⟩⟩
  · have nb : b ≠ x := fun q => by
      rw [q, hx] at e
      cases e
    exact rest b o (s1 b o e) nb
  · rw [ev_made nd, ev]
theorem ev_wide {ns ws : List Str} {t : Nat} (nd : ws.Nodup) (h : ∀ n ∈ ns, n ∈ ws) (c : Str → Bool) : Tab.ev ws (Tab.over ns t ws) c = Tab.ev ns t c := by
  rw [Tab.ev_over nd]
  refine Tab.ev_congr fun n hn => ?_
  simp [h n hn]
/-- the names of two says, in order -/
theorem both_ok {xs ys zs U : List Str} (nx : xs.Nodup) (ny : ys.Nodup) (hx : ∀ n ∈ xs, n ∈ U) (hy : ∀ n ∈ ys, n ∈ U) (p : zs.Perm (xs ++ ys.filter fun n => decide (n ∉ xs))) :
    zs.Nodup ∧ (∀ n ∈ zs, n ∈ U) ∧ (∀ n ∈ xs, n ∈ zs) ∧ (∀ n ∈ ys, n ∈ zs) := by
  refine ⟨p.nodup_iff.mpr ?_, fun n hn => ?_, fun n hn => p.mem_iff.mpr (List.mem_append_left _ hn), fun n hn => p.mem_iff.mpr ?_⟩
  · refine List.nodup_append.mpr ⟨nx, List.Nodup.sublist List.filter_sublist ny, fun a ha b hb => ?_⟩
    have z := (List.mem_filter.mp hb).2
    intro e
    rw [← e] at z
    simp [ha] at z
  · rcases List.mem_append.mp (p.mem_iff.mp hn) with q | q
    · exact hx n q
    · exact hy n (List.mem_filter.mp q).1
  · by_cases q : n ∈ xs
    · exact List.mem_append_left _ q
    · exact List.mem_append_right _ (List.mem_filter.mpr ⟨hn, by simp [q]⟩)
theorem both_names {xs ys zs : List Str} (hx : ∀ n ∈ xs, isName n = true) (hy : ∀ n ∈ ys, isName n = true) (p : zs.Perm (xs ++ ys.filter fun n => decide (n ∉ xs))) : ∀ n ∈ zs, isName n = true := fun n hn => by
  rcases List.mem_append.mp (p.mem_iff.mp hn) with q | q
  · exact hx n q
  · exact hy n (List.mem_filter.mp q).1
theorem scAnd : FnScope ["self", "other", "names"] ["self", "other"] (defScope m_Say_and) := ⟨rfl, rfl, rfl, by decide +kernel, rfl, by decide +kernel, by decide +kernel⟩
theorem ok_and {f : Addr} {fd : FuncData} (S : Sy P w K mg base C) (O : Mn P w K mg base C "over" ["self", "names"] 5 (spOverM K C)) (F : Fun K "__and__" "Say.__and__" m_Say_and f fd) : FnOk P w K mg base CX0 7 f fd ["self", "other"] (spBin C fun p q => p && q) := by
  obtain ⟨fO, fdO, mO, GO, bO⟩ := O.ex
  obtain ⟨fM, fdM, GM, mM, kM, bM⟩ := S.merged.ex
  obtain ⟨fI, fdI, MI, GI, bI⟩ := S.made
  refine F.ok scAnd (fun vs H Q E h => ?_) (fun cdv A outer s H vs Q E hr h => ?_)
  · obtain ⟨a, b, U, φ, ψ, rfl, _⟩ := h
    rfl
  · obtain ⟨a, b, U, φ, ψ, rfl, ⟨xs, t, SA, nA, uA, eA⟩, ⟨ys, u, SB, nB, uB, eB⟩, six, k⟩ := h
    refine ⟨_, pss_cons (ps_if (pt_not (pt_val (pe_callB call_isi (by rfl) S.isi (by decide +kernel) (pa_cons (pv 1) (pa_cons (pe_glob (by rfl) S.mgC (v := .ref C) rfl) pa_nil))))) (pss_one ps_never) pss_nil)
      (pss_cons (ps_set (i := 2) scAnd.nd rfl (Or.inl rfl) (pe_call GM (hr.mono (by decide)) rfl mM kM bM .nil pass0 (pa_cons (pe_fld (pv 0) rfl) (pa_cons (pe_fld (pv 1) rfl) pa_nil))))
      (pss_one (ps_ret (pe_make MI GI hr (by rfl) S.mgC bI .nil pass0 (pa_cons (pv 2) (pa_cons (pe_op n_and (pe_meth (pv 0) S.cl mO GO (hr.mono (by decide)) bO .nil pass0 (pa_cons (pv 2) pa_nil)) (pe_meth (pv 1) S.cl mO GO (hr.mono (by decide)) bO .nil pass0 (pa_cons (pv 2) pa_nil))) pa_nil)))))), ?_⟩
    obtain ⟨dx, ka, ha, hka⟩ := id SA
    obtain ⟨dy, kb, hb, hkb⟩ := id SB
    refine ⟨_, rfl, _, _, _, _, true, rfl, .own C, S.ty _ _ _ _ hb, S.kit, _, rfl, ?_⟩
    refine iteF ?_
    refine ⟨_, rfl, a, C, dx, _, _, rfl, ha, S.cl, S.n1, sayF_names _ _, _, rfl, b, C, dy, _, _, rfl, hb, S.cl, S.n1, sayF_names _ _, ka, kb, xs, ys, rfl, SqT.of hka, SqT.of hkb, ?_, fun zs z H1 pm srt s1 nz hz => ?_⟩
    · have h1 := nA.six
      have h2 := nB.six
      omega
    obtain ⟨ndz, uz, xz, yz⟩ := both_ok nA.nd nB.nd uA uB pm
    have l6 : zs.length ≤ 6 := Nat.le_trans (sub_len ndz uz) six
    have okz := both_names nA.ok nB.ok pm
    refine ⟨_, rfl, _, rfl, a, dx, _, rfl, s1 _ _ ha, rfl, _, rfl, a, z, xs, zs, t, rfl, SA.same s1, nA, SqT.of hz, ndz, l6, okz, fun H2 s2 => ?_⟩
    refine ⟨_, rfl, b, dy, _, rfl, s2 _ _ (s1 _ _ hb), rfl, _, rfl, b, z, ys, zs, u, rfl, (SB.same s1).same s2, nB, SqT.of (s2 _ _ hz), ndz, l6, okz, fun H3 s3 => ?_⟩
    have s13 : Same H H3 := fun c o e => s3 c o (s2 c o (s1 c o e))
    refine ⟨_, _, rfl, rfl, trivial, ?_⟩
    refine made_ok (U := U) (χ := fun c => (fun p q => p && q) (φ c) (ψ c)) (SqT.of (s3 _ _ (s2 _ _ hz))) ndz (sorted_pw srt) uz six okz (Nat.and_lt_two_pow _ (Tab.over_lt _ _ _)) (fun c => ?_) fun x H' s' nx is => k x H' (fun c o e => s' c o (s13 c o e)) (s13.free nx) is
    have e1 := ev_wide (t := t) ndz xz c
    have e2 := ev_wide (t := u) ndz yz c
    rw [eA] at e1
    rw [eB] at e2
    unfold Tab.ev at e1 e2 ⊢
    rw [Nat.testBit_and, e1, e2]
theorem scOr : FnScope ["self", "other", "names"] ["self", "other"] (defScope m_Say_or) := ⟨rfl, rfl, rfl, by decide +kernel, rfl, by decide +kernel, by decide +kernel⟩
theorem ok_or {f : Addr} {fd : FuncData} (S : Sy P w K mg base C) (O : Mn P w K mg base C "over" ["self", "names"] 5 (spOverM K C)) (F : Fun K "__or__" "Say.__or__" m_Say_or f fd) : FnOk P w K mg base CX0 7 f fd ["self", "other"] (spBin C fun p q => p || q) := by
  obtain ⟨fO, fdO, mO, GO, bO⟩ := O.ex
  obtain ⟨fM, fdM, GM, mM, kM, bM⟩ := S.merged.ex
  obtain ⟨fI, fdI, MI, GI, bI⟩ := S.made
  refine F.ok scOr (fun vs H Q E h => ?_) (fun cdv A outer s H vs Q E hr h => ?_)
  · obtain ⟨a, b, U, φ, ψ, rfl, _⟩ := h
    rfl
  · obtain ⟨a, b, U, φ, ψ, rfl, ⟨xs, t, SA, nA, uA, eA⟩, ⟨ys, u, SB, nB, uB, eB⟩, six, k⟩ := h
    refine ⟨_, pss_cons (ps_if (pt_not (pt_val (pe_callB call_isi (by rfl) S.isi (by decide +kernel) (pa_cons (pv 1) (pa_cons (pe_glob (by rfl) S.mgC (v := .ref C) rfl) pa_nil))))) (pss_one ps_never) pss_nil)
      (pss_cons (ps_set (i := 2) scOr.nd rfl (Or.inl rfl) (pe_call GM (hr.mono (by decide)) rfl mM kM bM .nil pass0 (pa_cons (pe_fld (pv 0) rfl) (pa_cons (pe_fld (pv 1) rfl) pa_nil))))
      (pss_one (ps_ret (pe_make MI GI hr (by rfl) S.mgC bI .nil pass0 (pa_cons (pv 2) (pa_cons (pe_op n_or (pe_meth (pv 0) S.cl mO GO (hr.mono (by decide)) bO .nil pass0 (pa_cons (pv 2) pa_nil)) (pe_meth (pv 1) S.cl mO GO (hr.mono (by decide)) bO .nil pass0 (pa_cons (pv 2) pa_nil))) pa_nil)))))), ?_⟩
    obtain ⟨dx, ka, ha, hka⟩ := id SA
    obtain ⟨dy, kb, hb, hkb⟩ := id SB
    refine ⟨_, rfl, _, _, _, _, true, rfl, .own C, S.ty _ _ _ _ hb, S.kit, _, rfl, ?_⟩
    refine iteF ?_
    refine ⟨_, rfl, a, C, dx, _, _, rfl, ha, S.cl, S.n1, sayF_names _ _, _, rfl, b, C, dy, _, _, rfl, hb, S.cl, S.n1, sayF_names _ _, ka, kb, xs, ys, rfl, SqT.of hka, SqT.of hkb, ?_, fun zs z H1 pm srt s1 nz hz => ?_⟩
    · have h1 := nA.six
      have h2 := nB.six
      omega
    obtain ⟨ndz, uz, xz, yz⟩ := both_ok nA.nd nB.nd uA uB pm
    have l6 : zs.length ≤ 6 := Nat.le_trans (sub_len ndz uz) six
    have okz := both_names nA.ok nB.ok pm
    refine ⟨_, rfl, _, rfl, a, dx, _, rfl, s1 _ _ ha, rfl, _, rfl, a, z, xs, zs, t, rfl, SA.same s1, nA, SqT.of hz, ndz, l6, okz, fun H2 s2 => ?_⟩
    refine ⟨_, rfl, b, dy, _, rfl, s2 _ _ (s1 _ _ hb), rfl, _, rfl, b, z, ys, zs, u, rfl, (SB.same s1).same s2, nB, SqT.of (s2 _ _ hz), ndz, l6, okz, fun H3 s3 => ?_⟩
    have s13 : Same H H3 := fun c o e => s3 c o (s2 c o (s1 c o e))
    refine ⟨_, _, rfl, rfl, trivial, ?_⟩
    refine made_ok (U := U) (χ := fun c => (fun p q => p || q) (φ c) (ψ c)) (SqT.of (s3 _ _ (s2 _ _ hz))) ndz (sorted_pw srt) uz six okz (Nat.or_lt_two_pow (Tab.over_lt _ _ _) (Tab.over_lt _ _ _)) (fun c => ?_) fun x H' s' nx is => k x H' (fun c o e => s' c o (s13 c o e)) (s13.free nx) is
    have e1 := ev_wide (t := t) ndz xz c
    have e2 := ev_wide (t := u) ndz yz c
    rw [eA] at e1
    rw [eB] at e2
    unfold Tab.ev at e1 e2 ⊢
    rw [Nat.testBit_or, e1, e2]
theorem scXor : FnScope ["self", "other", "names"] ["self", "other"] (defScope m_Say_xor) := ⟨rfl, rfl, rfl, by decide +kernel, rfl, by decide +kernel, by decide +kernel⟩
theorem ok_xor {f : Addr} {fd : FuncData} (S : Sy P w K mg base C) (O : Mn P w K mg base C "over" ["self", "names"] 5 (spOverM K C)) (F : Fun K "__xor__" "Say.__xor__" m_Say_xor f fd) : FnOk P w K mg base CX0 7 f fd ["self", "other"] (spBin C fun p q => p ^^ q) := by
  obtain ⟨fO, fdO, mO, GO, bO⟩ := O.ex
  obtain ⟨fM, fdM, GM, mM, kM, bM⟩ := S.merged.ex
  obtain ⟨fI, fdI, MI, GI, bI⟩ := S.made
  refine F.ok scXor (fun vs H Q E h => ?_) (fun cdv A outer s H vs Q E hr h => ?_)
  · obtain ⟨a, b, U, φ, ψ, rfl, _⟩ := h
    rfl
  · obtain ⟨a, b, U, φ, ψ, rfl, ⟨xs, t, SA, nA, uA, eA⟩, ⟨ys, u, SB, nB, uB, eB⟩, six, k⟩ := h
    refine ⟨_, pss_cons (ps_if (pt_not (pt_val (pe_callB call_isi (by rfl) S.isi (by decide +kernel) (pa_cons (pv 1) (pa_cons (pe_glob (by rfl) S.mgC (v := .ref C) rfl) pa_nil))))) (pss_one ps_never) pss_nil)
      (pss_cons (ps_set (i := 2) scXor.nd rfl (Or.inl rfl) (pe_call GM (hr.mono (by decide)) rfl mM kM bM .nil pass0 (pa_cons (pe_fld (pv 0) rfl) (pa_cons (pe_fld (pv 1) rfl) pa_nil))))
      (pss_one (ps_ret (pe_make MI GI hr (by rfl) S.mgC bI .nil pass0 (pa_cons (pv 2) (pa_cons (pe_op n_xor (pe_meth (pv 0) S.cl mO GO (hr.mono (by decide)) bO .nil pass0 (pa_cons (pv 2) pa_nil)) (pe_meth (pv 1) S.cl mO GO (hr.mono (by decide)) bO .nil pass0 (pa_cons (pv 2) pa_nil))) pa_nil)))))), ?_⟩
    obtain ⟨dx, ka, ha, hka⟩ := id SA
    obtain ⟨dy, kb, hb, hkb⟩ := id SB
    refine ⟨_, rfl, _, _, _, _, true, rfl, .own C, S.ty _ _ _ _ hb, S.kit, _, rfl, ?_⟩
    refine iteF ?_
    refine ⟨_, rfl, a, C, dx, _, _, rfl, ha, S.cl, S.n1, sayF_names _ _, _, rfl, b, C, dy, _, _, rfl, hb, S.cl, S.n1, sayF_names _ _, ka, kb, xs, ys, rfl, SqT.of hka, SqT.of hkb, ?_, fun zs z H1 pm srt s1 nz hz => ?_⟩
    · have h1 := nA.six
      have h2 := nB.six
      omega
    obtain ⟨ndz, uz, xz, yz⟩ := both_ok nA.nd nB.nd uA uB pm
    have l6 : zs.length ≤ 6 := Nat.le_trans (sub_len ndz uz) six
    have okz := both_names nA.ok nB.ok pm
    refine ⟨_, rfl, _, rfl, a, dx, _, rfl, s1 _ _ ha, rfl, _, rfl, a, z, xs, zs, t, rfl, SA.same s1, nA, SqT.of hz, ndz, l6, okz, fun H2 s2 => ?_⟩
    refine ⟨_, rfl, b, dy, _, rfl, s2 _ _ (s1 _ _ hb), rfl, _, rfl, b, z, ys, zs, u, rfl, (SB.same s1).same s2, nB, SqT.of (s2 _ _ hz), ndz, l6, okz, fun H3 s3 => ?_⟩
    have s13 : Same H H3 := fun c o e => s3 c o (s2 c o (s1 c o e))
    refine ⟨_, _, rfl, rfl, trivial, ?_⟩
    refine made_ok (U := U) (χ := fun c => (fun p q => p ^^ q) (φ c) (ψ c)) (SqT.of (s3 _ _ (s2 _ _ hz))) ndz (sorted_pw srt) uz six okz (Nat.xor_lt_two_pow (Tab.over_lt _ _ _) (Tab.over_lt _ _ _)) (fun c => ?_) fun x H' s' nx is => k x H' (fun c o e => s' c o (s13 c o e)) (s13.free nx) is
    have e1 := ev_wide (t := t) ndz xz c
    have e2 := ev_wide (t := u) ndz yz c
    rw [eA] at e1
    rw [eB] at e2
    unfold Tab.ev at e1 e2 ⊢
    rw [Nat.testBit_xor, e1, e2]
end
end Cm

set_option Elab.async false
set_option linter.all false
set_option maxRecDepth 100000
set_option maxHeartbeats 8000000
namespace Cm
open PySem PySem.Spec PyProof.Rows L2 Kv
def spInv (C : Addr) : Sp := fun vs H Q _ => ∃ (a : Addr) (U : List Str) (φ : (Str → Bool) → Bool), vs = [.ref a] ∧ IsSay H C a U φ ∧ U.length ≤ 6 ∧
  ∀ x H', Same H H' → H x = none → IsSay H' C x U (fun c => !φ c) → Q (.ref x) H'
def spConst (C : Addr) (b : Bool) : Sp := fun vs H Q _ => vs = [] ∧ ∀ x H', Same H H' → H x = none → IsSay H' C x [] (fun _ => b) → Q (.ref x) H'
section
variable {P : Program} {w : World} {K : PySem.W.Frag} {mg : Str → Option Value} {base : Heap} {C : Addr}
theorem scInv : FnScope ["self"] ["self"] (defScope m_Say_invert) := ⟨rfl, rfl, rfl, by decide +kernel, rfl, by decide +kernel, by decide +kernel⟩
theorem ok_inv {f : Addr} {fd : FuncData} (S : Sy P w K mg base C) (F : Fun K "__invert__" "Say.__invert__" m_Say_invert f fd) : FnOk P w K mg base CX0 7 f fd ["self"] (spInv C) := by
  obtain ⟨fE, fdE, GE, mE, kE, bE⟩ := S.every.ex
  obtain ⟨fI, fdI, MI, GI, bI⟩ := S.made
  refine F.ok scInv (fun vs H Q E h => ?_) (fun cdv A outer s H vs Q E hr h => ?_)
  · obtain ⟨a, U, φ, rfl, _⟩ := h
    rfl
  · obtain ⟨a, U, φ, rfl, ⟨xs, t, SA, nA, uA, eA⟩, six, k⟩ := h
    refine ⟨_, pss_one (ps_ret (pe_make MI GI hr (by rfl) S.mgC bI .nil pass0 (pa_cons (pe_fld (pv 0) rfl) (pa_cons (pe_op n_xor (pe_call GE (hr.mono (by decide)) rfl mE kE bE .nil pass0 (pa_cons (pe_callB call_len_seq (by rfl) S.len PySem.boot_len (pa_cons (pe_fld (pv 0) rfl) pa_nil)) pa_nil)) (pe_fld (pv 0) rfl)) pa_nil)))), ?_⟩
    obtain ⟨dx, ka, ha, hka⟩ := id SA
    have hl : (xs.map V.str).length = xs.length := List.length_map _
    refine ⟨_, rfl, a, C, dx, _, _, rfl, ha, S.cl, S.n1, sayF_names _ _, _, rfl, a, C, dx, _, _, rfl, ha, S.cl, S.n1, sayF_names _ _, ka, _, rfl, .inr (SqT.of hka), ?_⟩
    refine ⟨xs.length, by rw [hl]; rfl, Nat.le_trans nA.six (by decide), _, rfl, a, C, dx, _, _, rfl, ha, S.cl, S.n2, sayF_table _ _, _, _, rfl, rfl, trivial, ?_⟩
    refine made_ok (U := U) (χ := fun c => !φ c) (SqT.of hka) nA.nd nA.pw uA six nA.ok (Nat.xor_lt_two_pow (by have : 0 < 2 ^ (2 ^ xs.length) := Nat.pow_pos (by decide); omega) nA.lt) (fun c => ?_) k
    have e1 := eA c
    unfold Tab.ev at e1 ⊢
    rw [Nat.testBit_xor, Nat.testBit_two_pow_sub_one, e1]
    have := Tab.idx_lt c xs
    simp [this]
theorem norm_nil (b : Bool) : Norm [] b.toNat where
  nd := .nil
  pw := .nil
  six := Nat.zero_le _
  ok := fun n hn => by cases hn
  lt := by cases b <;> decide
  diff := fun m hm => by cases hm
theorem scYes : FnScope [] [] (defScope m_Say_yes) := ⟨rfl, rfl, rfl, by decide +kernel, rfl, by decide +kernel, by decide +kernel⟩
theorem ok_yes {f : Addr} {fd : FuncData} (S : Sy P w K mg base C) (F : Fun K "yes" "Say.yes" m_Say_yes f fd) : FnOk P w K mg base CX0 7 f fd [] (spConst C true) := by
  obtain ⟨fI, fdI, MI, GI, bI⟩ := S.made
  refine F.ok scYes (fun vs H Q E h => ?_) (fun cdv A outer s H vs Q E hr h => ?_)
  · rw [h.1]
    rfl
  · obtain ⟨rfl, k⟩ := h
    refine ⟨_, pss_one (ps_ret (pe_make MI GI hr (by rfl) S.mgC bI .nil pass0 (pa_cons (pe_tup pa_nil) (pa_cons pe_int pa_nil)))), ?_⟩
    refine ⟨(by show 0 ≤ sizeLine; decide), fun z hz => ?_⟩
    have s1 := same_step (o := .tup []) (Same.refl H) hz
    exact made_ok (U := []) (t := 1) (χ := fun _ => true) (zs := []) (SqT.of upd_same) .nil .nil (fun n hn => hn) (by decide) (fun n hn => by cases hn) (by decide) (fun c => by simp [Tab.ev, Tab.idx]) fun x H' s' nx is => k x H' (fun c o e => s' c o (s1 c o e)) (s1.free nx) is
theorem scNo : FnScope [] [] (defScope m_Say_no) := ⟨rfl, rfl, rfl, by decide +kernel, rfl, by decide +kernel, by decide +kernel⟩
theorem ok_no {f : Addr} {fd : FuncData} (S : Sy P w K mg base C) (F : Fun K "no" "Say.no" m_Say_no f fd) : FnOk P w K mg base CX0 7 f fd [] (spConst C false) := by
  obtain ⟨fI, fdI, MI, GI, bI⟩ := S.made
  refine F.ok scNo (fun vs H Q E h => ?_) (fun cdv A outer s H vs Q E hr h => ?_)
  · rw [h.1]
    rfl
  · obtain ⟨rfl, k⟩ := h
    refine ⟨_, pss_one (ps_ret (pe_make MI GI hr (by rfl) S.mgC bI .nil pass0 (pa_cons (pe_tup pa_nil) (pa_cons pe_int pa_nil)))), ?_⟩
    refine ⟨(by show 0 ≤ sizeLine; decide), fun z hz => ?_⟩
    have s1 := same_step (o := .tup []) (Same.refl H) hz
    exact made_ok (U := []) (t := 0) (χ := fun _ => false) (zs := []) (SqT.of upd_same) .nil .nil (fun n hn => hn) (by decide) (fun n hn => by cases hn) (by decide) (fun c => by simp [Tab.ev, Tab.idx]) fun x H' s' nx is => k x H' (fun c o e => s' c o (s1 c o e)) (s1.free nx) is
/-- of a name -/
def spTest (C : Addr) : Sp := fun vs H Q _ => ∃ z : Str, vs = [.str z] ∧ isName z = true ∧ ∀ x H', Same H H' → H x = none → IsSay H' C x [z] (fun c => c z) → Q (.ref x) H'
theorem name_len {z : Str} (h : isName z = true) : z.length ≤ sizeLine := by
  unfold isName at h
  have h2 := (Bool.and_eq_true_iff.mp (Bool.and_eq_true_iff.mp h).1).2
  exact Nat.le_trans (of_decide_eq_true h2) (by decide)
theorem scTest : FnScope ["name"] ["name"] (defScope m_Say_test) := ⟨rfl, rfl, rfl, by decide +kernel, rfl, by decide +kernel, by decide +kernel⟩
theorem ok_test {f : Addr} {fd : FuncData} (S : Sy P w K mg base C) (F : Fun K "test" "Say.test" m_Say_test f fd) : FnOk P w K mg base CX0 7 f fd ["name"] (spTest C) := by
  obtain ⟨fI, fdI, MI, GI, bI⟩ := S.made
  obtain ⟨fN, fdN, GN, mN, kN, bN⟩ := S.isName.ex
  refine F.ok scTest (fun vs H Q E h => ?_) (fun cdv A outer s H vs Q E hr h => ?_)
  · obtain ⟨z, rfl, _⟩ := h
    rfl
  · obtain ⟨z, rfl, hz, k⟩ := h
    refine ⟨_, pss_cons (ps_if (pt_not (pt_val (pe_call GN (hr.mono (by decide)) rfl mN kN bN .nil pass0 (pa_cons (pv 0) pa_nil)))) (pss_one ps_never) pss_nil)
      (pss_one (ps_ret (pe_make MI GI hr (by rfl) S.mgC bI .nil pass0 (pa_cons (pe_tup (pa_cons (pv 0) pa_nil)) (pa_cons pe_int pa_nil))))), ?_⟩
    refine ⟨_, rfl, _, rfl, .inl ⟨z, rfl, name_len hz, fun H1 s1 => ⟨_, rfl, ?_⟩⟩⟩
    rw [hz]
    refine iteF ?_
    refine ⟨_, rfl, (by show 1 ≤ sizeLine; decide), fun p hp => ?_⟩
    have s2 : Same H (upd H1 p (.tup [.str z])) := same_step s1 hp
    refine made_ok (U := [z]) (t := 2) (χ := fun c => c z) (zs := [z]) (SqT.of upd_same) (List.pairwise_singleton _ _) (List.pairwise_singleton _ _) (fun n hn => hn) (by show 1 ≤ 6; decide) (fun n hn => by rw [List.mem_singleton.mp hn]; exact hz) (by show 2 < 2 ^ (2 ^ 1); decide) (fun c => ?_) fun x H' s' nx is => k x H' (fun c o e => s' c o (s2 c o e)) (s2.free nx) is
    unfold Tab.ev Tab.idx Tab.idx
    cases c z <;> rfl
end
end Cm

set_option Elab.async false
set_option linter.all false
set_option maxRecDepth 100000
set_option maxHeartbeats 8000000
namespace Cm
open PySem PySem.Spec PyProof.Rows L2 Kv
/-- whether two says tell the same -/
def spEq (K : PySem.W.Frag) (C : Addr) : Sp := fun vs H Q _ => ∃ (a : Addr) (y : V) (U : List Str) (φ : (Str → Bool) → Bool), vs = [.ref a, y] ∧ IsSay H C a U φ ∧ (∀ n ∈ U, isName n = true) ∧
  ((∃ (b : Addr) (V' : List Str) (ψ : (Str → Bool) → Bool), y = .ref b ∧ IsSay H C b V' ψ ∧ (∀ n ∈ V', isName n = true) ∧ ∀ r : Bool, (r = true ↔ ∀ c, φ c = ψ c) → Q (.bl r) H) ∨
    (∃ t, TyX K H y t ∧ PySem.W.kitOne K t (.ref C) = some false ∧ Q (.bl false) H))
section
variable {P : Program} {w : World} {K : PySem.W.Frag} {mg : Str → Option Value} {base : Heap} {C : Addr}
theorem scEq : FnScope ["self", "other"] ["self", "other"] (defScope m_Say_eq) := ⟨rfl, rfl, rfl, by decide +kernel, rfl, by decide +kernel, by decide +kernel⟩
theorem ok_eq {f : Addr} {fd : FuncData} (S : Sy P w K mg base C) (F : Fun K "__eq__" "Say.__eq__" m_Say_eq f fd) : FnOk P w K mg base CX0 1 f fd ["self", "other"] (spEq K C) := by
  refine F.ok scEq (fun vs H Q E h => ?_) (fun cdv A outer s H vs Q E hr h => ?_)
  · obtain ⟨a, y, U, φ, rfl, _⟩ := h
    rfl
  · obtain ⟨a, y, U, φ, rfl, ⟨xs, t, SA, nA, uA, eA⟩, okU, h⟩ := h
    refine ⟨_, pss_one (ps_ret (pe_and (pe_callB call_isi (by rfl) S.isi (by decide +kernel) (pa_cons (pv 1) (pa_cons (pe_glob (by rfl) S.mgC (v := .ref C) rfl) pa_nil)))
      (pe_and (pe_cmpR (op_eqD hr.units) (pe_fld (pv 0) rfl) (pe_fld (pv 1) rfl) (nomark _)) (pe_one (pe_cmpR op_eq (pe_fld (pv 0) rfl) (pe_fld (pv 1) rfl) (nomark _)))))), ?_⟩
    obtain ⟨dx, ka, ha, hka⟩ := id SA
    rcases h with ⟨b, V', ψ, rfl, ⟨ys, u, SB, nB, uB, eB⟩, okV, k⟩ | ⟨ty, hty, kt, k⟩
    · obtain ⟨dy, kb, hb, hkb⟩ := id SB
      refine ⟨_, rfl, _, _, _, _, true, rfl, .own C, S.ty _ _ _ _ hb, S.kit, _, rfl, ?_⟩
      refine iteT ?_
      refine ⟨_, rfl, a, C, dx, _, _, rfl, ha, S.cl, S.n1, sayF_names _ _, _, rfl, b, C, dy, _, _, rfl, hb, S.cl, S.n1, sayF_names _ _, .tuple (xs.map PyData.str), .tuple (ys.map PyData.str), .tup (SqT.of hka) (dpStrs xs), .tup (SqT.of hkb) (dpStrs ys), shpStrs (fun n hn => okU n (uA n hn)), shpStrs (fun n hn => okV n (uB n hn)), decide (xs = ys), ?_, ?_⟩
      · simp only [PyData.eqv, eqvStrs]
      by_cases e : xs = ys
      · subst e
        rw [decide_eq_true rfl]
        refine iteT ?_
        refine ⟨_, rfl, a, C, dx, _, _, rfl, ha, S.cl, S.n2, sayF_table _ _, _, rfl, b, C, dy, _, _, rfl, hb, S.cl, S.n2, sayF_table _ _, rfl, ?_⟩
        refine k _ ?_
        constructor
        · intro q c
          have q2 : t = u := Int.ofNat.inj (V.int.inj (of_decide_eq_true q))
          rw [← eA, ← eB, q2]
        · intro q
          have := (norm_ext nA nB fun c => by rw [eA, eB, q]).2
          rw [this]
          exact decide_eq_true rfl
      · rw [decide_eq_false e]
        refine iteF ?_
        refine k false ⟨fun q => absurd q Bool.false_ne_true, fun q => ?_⟩
        exact absurd (norm_ext nA nB fun c => by rw [eA, eB, q]).1 e
    · refine ⟨_, rfl, _, _, _, _, false, rfl, .own C, hty, kt, _, rfl, ?_⟩
      refine iteF ?_
      exact k
/-- the tests that make a difference -/
def spTests (K : PySem.W.Frag) (C : Addr) : Sp := fun vs H Q _ => ∃ (a : Addr) (U : List Str) (φ : (Str → Bool) → Bool), vs = [.ref a] ∧ IsSay H C a U φ ∧
  ∀ (L : Addr) (ns : List Str) (H' : Hp), Same H H' → H L = none → H' L = some (.lst (ns.map V.str)) → ns.Nodup → ns.Pairwise leS → (∀ n, n ∈ ns ↔ ∃ c, φ (Tab.upd c n true) ≠ φ (Tab.upd c n false)) → Q (.ref L) H'
theorem scTests : FnScope ["self"] ["self"] (defScope m_Say_tests) := ⟨rfl, rfl, rfl, by decide +kernel, rfl, by decide +kernel, by decide +kernel⟩
theorem ok_tests {f : Addr} {fd : FuncData} (S : Sy P w K mg base C) (F : Fun K "tests" "Say.tests" m_Say_tests f fd) : FnOk P w K mg base CX0 1 f fd ["self"] (spTests K C) := by
  refine F.ok scTests (fun vs H Q E h => ?_) (fun cdv A outer s H vs Q E hr h => ?_)
  · obtain ⟨a, U, φ, rfl, _⟩ := h
    rfl
  · obtain ⟨a, U, φ, rfl, ⟨xs, t, SA, nA, uA, eA⟩, k⟩ := h
    refine ⟨_, pss_one (ps_ret (pe_callTy call_list_of (by rfl) S.list (by decide +kernel) (pa_cons (pe_fld (pv 0) rfl) pa_nil))), ?_⟩
    obtain ⟨dx, ka, ha, hka⟩ := id SA
    refine ⟨_, rfl, a, C, dx, _, _, rfl, ha, S.cl, S.n1, sayF_names _ _, ka, _, rfl, .inr (SqT.of hka), fun L hL => ?_⟩
    refine k L xs _ (same_step (Same.refl H) hL) hL upd_same nA.nd nA.pw fun n => ⟨fun hn => ?_, fun hn => ?_⟩
    · obtain ⟨c, hc⟩ := nA.diff n hn
      rw [eA, eA] at hc
      exact ⟨c, hc⟩
    · obtain ⟨c, hc⟩ := hn
      rw [← eA, ← eA] at hc
      apply Classical.byContradiction
      intro no
      apply hc
      refine Tab.ev_congr fun m hm => ?_
      have ne : m ≠ n := fun z => no (z ▸ hm)
      rw [Tab.upd_ne ne, Tab.upd_ne ne]
end
end Cm

set_option Elab.async false
set_option linter.all false
set_option maxRecDepth 100000
set_option maxHeartbeats 8000000
namespace Cm
open PySem PySem.Spec PyProof.Rows L2 Kv
/-! ### drawn orders, drawn names -/
theorem Spr.sameS {H H' : Hp} {p l : Addr} {n : Nat} (h : Spr H p l n) (s : Same H H') : Spr H' p l n := by
  obtain ⟨ms, a, st, ne, h1, h2, r⟩ := h
  exact ⟨ms, a, st, ne, s _ _ h1, s _ _ h2, r⟩
theorem Spr.off {H H' : Hp} {p l D : Addr} {n : Nat} {o : HO} (h : Spr H p l n) (np : D ≠ p) (nl : D ≠ l) : Spr (upd H D o) p l n := by
  obtain ⟨ms, a, st, ne, h1, h2, r⟩ := h
  exact ⟨ms, a, st, ne, by rw [upd_ne np.symm]; exact h1, by rw [upd_ne nl.symm]; exact h2, r⟩
theorem Spr.apart {H : Hp} {p l q : Addr} {n : Nat} (h : Spr H p l n) (hq : H q = none) : q ≠ p ∧ q ≠ l := by
  obtain ⟨_, _, _, _, h1, h2, _⟩ := h
  exact ⟨(ne_of_none h1 hq).symm, (ne_of_none h2 hq).symm⟩
theorem draw_bounds {k : Int} {m : Nat} (h0 : 0 ≤ k) (h1 : k < (m : Int)) : seqIndex? k m = some k.toNat := by
  unfold seqIndex?
  have e : ¬ k < 0 := by omega
  simp [e]
  omega
theorem perm_erase {α : Type} {xs : List α} {k : Nat} {y : α} (h : xs[k]? = some y) : (y :: xs.eraseIdx k).Perm xs := by
  induction xs generalizing k with
  | nil => simp at h
  | cons x xs ih =>
    cases k with
    | zero =>
      have e : x = y := by simpa using h
      subst e
      simp
    | succ k =>
      have e : xs[k]? = some y := by simpa using h
      rw [List.eraseIdx_cons_succ]
      exact (List.Perm.swap x y _).trans (List.Perm.cons x (ih e))
theorem erase_map {α β : Type} (f : α → β) : ∀ (xs : List α) (k : Nat), (xs.map f).eraseIdx k = (xs.eraseIdx k).map f
  | [], _ => by simp
  | x :: xs, 0 => by simp
  | x :: xs, k + 1 => by
    rw [List.map_cons, List.eraseIdx_cons_succ, List.eraseIdx_cons_succ, List.map_cons, erase_map f xs k]
def spMixed (K : PySem.W.Frag) : Sp := fun vs H Q _ => ∃ (p l t : Addr) (n : Nat) (ns : List Str), vs = [.ref p, .ref t] ∧ Spr H p l n ∧ n + ns.length ≤ 1000000 ∧ (SqL K H t (ns.map V.str) ∨ SqT K H t (ns.map V.str)) ∧ ns.length ≤ 64 ∧ (∀ z ∈ ns, isName z = true) ∧
  ∀ (L : Addr) (ys : List Str) (H' : Hp), ys.Perm ns → Spr H' p l (n + ns.length) → H L = none → H' L = some (.lst (ys.map V.str)) → Same2 p l H H' → Q (.ref L) H'
theorem shpStrsL {ns : List Str} (h : ∀ n ∈ ns, isName n = true) : SeqAt.shaped (.list (ns.map PyData.str)) = true := by
  show (PyData.canLay0 (.list (ns.map PyData.str)) && decide (PyData.depth (.list (ns.map PyData.str)) ≤ 64)) = true
  rw [Bool.and_eq_true]
  refine ⟨by simp only [PyData.canLay0]; exact layStrs h, decide_eq_true ?_⟩
  simp only [PyData.depth, depStrs]
  omega
end Cm

set_option Elab.async false
set_option linter.all false
set_option maxRecDepth 100000
set_option maxHeartbeats 8000000
namespace Cm
open PySem PySem.Spec PyProof.Rows L2 Kv
def menu : List Str := ["a", "b", "c", "ab", "ba", "zz", "ready", "busy", "yes", "no", "test", "longname", "q", "x"]
theorem menu_nd : menu.Nodup := by decide +kernel
theorem menu_ok : ∀ n ∈ menu, isName n = true := by decide +kernel
def spNames (K : PySem.W.Frag) : Sp := fun vs H Q _ => ∃ (p l : Addr) (n m : Nat), vs = [.ref p, natV m] ∧ Spr H p l n ∧ n + m ≤ 1000000 ∧ m ≤ 14 ∧
  ∀ (L : Addr) (ns : List Str) (H' : Hp), ns.length = m → ns.Nodup → (∀ z ∈ ns, z ∈ menu) → Spr H' p l (n + m) → H L = none → H' L = some (.lst (ns.map V.str)) → Same2 p l H H' → Q (.ref L) H'
section
variable {P : Program} {w : World} {K : PySem.W.Frag} {mg : Str → Option Value} {base : Heap}
theorem scNames : FnScope ["_law_spring_here", "_law_many", "_law_menu", "_law_k"] ["_law_spring_here", "_law_many"] (defScope s_l_names) := ⟨rfl, rfl, rfl, by decide +kernel, rfl, by decide +kernel, by decide +kernel⟩
theorem ok_names {f : Addr} {fd : FuncData} (D : Dn P w K mg base "_law_draw" ["_law_spring_here", "_law_many"] 1 spDraw) (mR : mg "range" = none) (mLen : mg "len" = none) (F : Fun K "_law_names" "_law_names" s_l_names f fd) :
    FnOk P w K mg base CX0 2 f fd ["_law_spring_here", "_law_many"] (spNames K) := by
  obtain ⟨fD, fdD, GD, mD, kD, bD⟩ := D.ex
  refine F.ok scNames (fun vs H Q E h => ?_) (fun cdv A outer s H vs Q E hr h => ?_)
  · obtain ⟨p, l, n, m, rfl, _⟩ := h
    rfl
  · obtain ⟨p, l, n, m, rfl, S, hn, hm, k⟩ := h
    refine ⟨_, pss_cons (ps_set (i := 2) scNames.nd rfl (Or.inr rfl) (pe_lst (pa_cons pe_str (pa_cons pe_str (pa_cons pe_str (pa_cons pe_str (pa_cons pe_str (pa_cons pe_str (pa_cons pe_str (pa_cons pe_str (pa_cons pe_str (pa_cons pe_str (pa_cons pe_str (pa_cons pe_str (pa_cons pe_str (pa_cons pe_str pa_nil))))))))))))))))
      (pss_one (ps_ret (pe_lc (own := [("_law_k", 3)]) (g := gName 3) (tt := tYes) (te := tBM K "list" rPopAt (tVar 2) (tCons (tCall spDraw [] E0 (tCons (tVar 0) (tCons (tCB (rLenK K) (tCons (tVar 2) tNil)) tNil))) tNil)) (by rfl) scNames.nd (pi_range1 (by rfl) mR (pa_cons (pv 1) pa_nil))
        (blkOk_by (own := [("_law_k", 3)]) (N := ["_law_spring_here", "_law_many", "_law_menu", "_law_k"]) (sc := defScope s_l_names) (by decide +kernel))
        (fun _ _ _ _ _ => pg_name (i := 3) scNames.nd rfl (Or.inl rfl)) (fun _ _ _ _ _ => pts_nil)
        (fun _ _ _ _ _ => pe_bm PySem.F.plainAttrs_list PySem.F.slot_list_pop PySem.F.type_list_pop mt_popAt (pv 2) (pa_cons (pe_call GD hr rfl mD kD bD .nil pass0 (pa_cons (pv 0) (pa_cons (pe_callB call_len_seq (by rfl) mLen PySem.boot_len (pa_cons (pv 2) pa_nil)) pa_nil))) pa_nil))))), ?_⟩
    refine ⟨(by show 14 ≤ sizeLine; decide), fun M hM => ?_⟩
    have e0 : ([.str "a", .str "b", .str "c", .str "ab", .str "ba", .str "zz", .str "ready", .str "busy", .str "yes", .str "no", .str "test", .str "longname", .str "q", .str "x"] : List V) = menu.map V.str := rfl
    have s1 : Same H (upd H M (.lst (menu.map V.str))) := same_step (Same.refl H) hM
    have hM1 : upd H M (.lst (menu.map V.str)) M = some (.lst (menu.map V.str)) := upd_same
    have mS := Spr.apart S hM
    refine ⟨_, rfl, _, rfl, (by omega), (by omega), fun D hD => ?_⟩
    rw [e0] at hD ⊢
    generalize upd H M (.lst (menu.map V.str)) = H1 at *
    rw [Int.toNat_natCast]
    have nMD : M ≠ D := ne_of_none hM1 hD
    have hD0 : H D = none := s1.free hD
    have dS := Spr.apart S hD0
    have s2 : Same H (upd H1 D (.lst [])) := same_step s1 hD
    refine lc_range (lo := 0) (n := m) (fun i H' => ∃ rs fs : List Str, H' M = some (.lst (rs.map V.str)) ∧ H' D = some (.lst (fs.map V.str)) ∧ (fs ++ rs).Perm menu ∧ fs.length = i ∧ Spr H' p l (n + i) ∧ Same2 p l H H')
      ⟨menu, [], by rw [upd_ne nMD]; exact hM1, upd_same, List.Perm.refl _, rfl, S.sameS s2, Same2.of s2⟩ ?_ ?_
    · rintro i H2 hi ⟨rs, fs, hM2, hD2, pm, lf, S2, t2⟩
      have lens : fs.length + rs.length = 14 := by
        have e := pm.length_eq
        rw [List.length_append] at e
        exact e
      have hl : (rs.map V.str).length = rs.length := List.length_map _
      refine ⟨rfl, ?_⟩
      refine iteT (B := False) ?_
      rw [if_pos rfl]
      refine ⟨_, rfl, .inl ⟨rfl, _, SqL.of hM2⟩, _, rfl, _, rfl, M, _, rfl, .inl (SqL.of hM2), p, l, n + i, ((rs.length : Nat) : Int), ?_, S2, by omega, by omega, by omega, fun c H3 c0 c1 S3 s3 => ?_⟩
      · rw [hl]
        rfl
      have hM3 := s3 M _ hM2 mS.1 mS.2
      have hD3 := s3 D _ hD2 dS.1 dS.2
      have hc : c.toNat < rs.length := by omega
      obtain ⟨y, hy⟩ : ∃ y, rs[c.toNat]? = some y := ⟨_, List.getElem?_eq_getElem hc⟩
      refine ⟨M, _, c, c.toNat, .str y, rfl, rfl, hM3, by omega, by omega, ?_, ?_, ?_⟩
      · rw [hl]
        exact draw_bounds c0 c1
      · rw [List.getElem?_map, hy]
        rfl
      rw [erase_map]
      have hD4 : upd H3 M (.lst ((rs.eraseIdx c.toNat).map V.str)) D = some (.lst (fs.map V.str)) := by
        rw [upd_ne nMD.symm]
        exact hD3
      refine ⟨_, hD4, ?_, rs.eraseIdx c.toNat, fs ++ [y], ?_, ?_, ?_, ?_, ?_, ?_⟩
      · rw [List.length_map]
        have : 65 ≤ sizeLine := by decide
        omega
      · rw [upd_ne nMD, upd_same]
      · rw [upd_same, List.map_append]
        rfl
      · rw [List.append_assoc]
        exact (List.Perm.append_left fs (perm_erase hy)).trans pm
      · rw [List.length_append, lf]
        rfl
      · exact (S3.off (H' := H3) mS.1 mS.2).off (H' := H3) dS.1 dS.2
      · intro b o e n1 n2
        rw [upd_ne (ne_of_none e hD0), upd_ne (ne_of_none e hM)]
        exact s3 b o (t2 b o e n1 n2) n1 n2
    · rintro H2 ⟨rs, fs, hM2, hD2, pm, lf, S2, t2⟩
      have nd := pm.nodup_iff.mpr menu_nd
      exact k D fs H2 lf (List.nodup_append.mp nd).1 (fun z hz => pm.mem_iff.mp (List.mem_append_left _ hz)) S2 hD0 hD2 t2
end
end Cm

set_option Elab.async false
set_option linter.all false
set_option maxRecDepth 100000
set_option maxHeartbeats 8000000
namespace Cm
open PySem PySem.Spec PyProof.Rows L2 Kv
/-- a list or a tuple that a name of the def holds is gone through -/
def iSeqV (K : PySem.W.Frag) (i : Nat) : TI := fun σ H R => ∃ a xs, σ[i]? = some (some (.ref a)) ∧ ((SqL K H a xs ∧ R (Itl K a) H) ∨ (SqT K H a xs ∧ R (Itt K a) H))
theorem pi_seqV {X : Cx} {tg e : Expr} {i : Nat} (he : PE X e (tVar i)) : PI X tg e (iSeqV X.K i) where
  run := fun pins s σ H R I h => by
    obtain ⟨a, xs, h0, h | h⟩ := h
    · exact (pi_list he).run pins s σ H R I ⟨_, h0, a, rfl, ⟨xs, h.1⟩, h.2⟩
    · exact (pi_tup he).run pins s σ H R I ⟨_, h0, a, rfl, ⟨xs, h.1⟩, h.2⟩
/-- the places of the names that hold, as far as the place i -/
def trueTo (ns xs : List Str) (i : Nat) : List Nat := (List.range i).filter fun p => decide (ns.getD p "" ∈ xs)
theorem trueTo_succ (ns xs : List Str) (i : Nat) : trueTo ns xs (i + 1) = trueTo ns xs i ++ (if ns.getD i "" ∈ xs then [i] else []) := by
  unfold trueTo
  rw [List.range_succ, List.filter_append]
  by_cases h : ns.getD i "" ∈ xs
  · have e : ([i].filter fun p => decide (ns.getD p "" ∈ xs)) = [i] := List.filter_cons_of_pos (p := fun p => decide (ns.getD p "" ∈ xs)) (l := []) (decide_eq_true h)
    rw [if_pos h, e]
  · have e : ([i].filter fun p => decide (ns.getD p "" ∈ xs)) = [] := List.filter_cons_of_neg (p := fun p => decide (ns.getD p "" ∈ xs)) (l := []) (fun z => h (of_decide_eq_true z))
    rw [if_neg h, e]
theorem trueTo_len (ns xs : List Str) (i : Nat) : (trueTo ns xs i).length ≤ i := by
  unfold trueTo
  have h := List.length_filter_le (fun p => decide (ns.getD p "" ∈ xs)) (List.range i)
  rwa [List.length_range] at h
theorem mask_idx (ns xs : List Str) : Tab.maskOf (trueTo ns xs ns.length) = Tab.idx (fun n => decide (n ∈ xs)) ns := by
  apply Nat.eq_of_testBit_eq
  intro k
  rw [Tab.maskOf_bit, Tab.idx_bit]
  by_cases hk : k < ns.length
  · rw [List.getElem?_eq_getElem hk]
    have e : ns.getD k "" = ns[k] := by
      rw [List.getD_eq_getElem?_getD, List.getElem?_eq_getElem hk]
      rfl
    have m : k ∈ trueTo ns xs ns.length ↔ ns[k] ∈ xs := by
      unfold trueTo
      rw [List.mem_filter, List.mem_range, e]
      simp [hk]
    simp [m]
  · rw [List.getElem?_eq_none (by omega)]
    have m : k ∉ trueTo ns xs ns.length := by
      unfold trueTo
      rw [List.mem_filter, List.mem_range]
      exact fun z => hk z.1
    simp [m]
def spHolds (K : PySem.W.Frag) (C : Addr) : Sp := fun vs H Q _ => ∃ (a l : Addr) (U xs : List Str) (φ : (Str → Bool) → Bool), vs = [.ref a, .ref l] ∧ IsSay H C a U φ ∧ (SqL K H l (xs.map V.str) ∨ SqT K H l (xs.map V.str)) ∧ (∀ n ∈ xs, isName n = true) ∧
  ∀ H', Same H H' → Q (.bl (φ fun n => decide (n ∈ xs))) H'
section
variable {P : Program} {w : World} {K : PySem.W.Frag} {mg : Str → Option Value} {base : Heap} {C : Addr}
theorem seq_same {H H' : Hp} {l : Addr} {ys : List V} (h : SqL K H l ys ∨ SqT K H l ys) (s : Same H H') : SqL K H' l ys ∨ SqT K H' l ys := h.elim (fun z => .inl (sqL_same z s)) fun z => .inr (sqT_same z s)
theorem scHolds : FnScope ["self", "true", "name", "index", "place"] ["self", "true"] (defScope m_Say_holds) := ⟨rfl, rfl, rfl, by decide +kernel, rfl, by decide +kernel, by decide +kernel⟩
theorem ok_holds {f : Addr} {fd : FuncData} (S : Sy P w K mg base C) (F : Fun K "holds" "Say.holds" m_Say_holds f fd) : FnOk P w K mg base CX0 2 f fd ["self", "true"] (spHolds K C) := by
  obtain ⟨fN, fdN, GN, mN, kN, bN⟩ := S.isName.ex
  obtain ⟨fM, fdM, GM, mM, kM, bM⟩ := S.maskOf.ex
  refine F.ok scHolds (fun vs H Q E h => ?_) (fun cdv A outer s H vs Q E hr h => ?_)
  · obtain ⟨a, l, U, xs, φ, rfl, _⟩ := h
    rfl
  · obtain ⟨a, l, U, xs, φ, rfl, ⟨ns, t, SA, nA, uA, eA⟩, hl, okx, k⟩ := h
    obtain ⟨dx, ka, ha, hka⟩ := id SA
    have rest : ∃ T, PSs (cxOf CX0 P w K mg base ["self", "true", "name", "index", "place"] "Say.holds" (defScope m_Say_holds) f cdv A outer s H E).nox ((defBody m_Say_holds).drop 1) T ∧
        ∀ c H1, Same H H1 → T { nx := fun _ H' => Q .non H', rt := Q } [some (.ref a), some (.ref l), c, none, none] H1 := by
      refine ⟨_, pss_cons (ps_set (i := 3) scHolds.nd rfl (Or.inl rfl) (pe_call GM hr rfl mM kM bM .nil pass0 (pa_cons (pe_lc (own := [("place", 4), ("name", 2)]) (g := gTup K 2 (gCons (gName 4) (gCons (gName 2) gNil)))
          (tt := tTest (tOp (rIn K false) (tVar 2) (tVar 1))) (te := tVar 4) (by rfl) scHolds.nd (pi_enumT (by rfl) S.enum (pa_cons (pe_fld (pv 0) rfl) pa_nil))
          (blkOk_by (own := [("place", 4), ("name", 2)]) (N := ["self", "true", "name", "index", "place"]) (sc := defScope m_Say_holds) (by decide +kernel))
          (fun _ _ _ _ _ => pg_tup (by rfl) (pgs_cons (pg_name (i := 4) scHolds.nd rfl (Or.inl rfl)) (pgs_cons (pg_name (i := 2) scHolds.nd rfl (Or.inl rfl)) pgs_nil)))
          (fun _ _ _ _ _ => pts_one (pt_cmpR op_in_seq (pv 2) (pv 1) (by rfl))) (fun _ _ _ _ _ => pv 4)) pa_nil)))
        (pss_one (ps_ret (pe_cmpR op_eq (pe_op n_and (pe_op n_shr (pe_fld (pv 0) rfl) (pv 3)) pe_int) pe_int (nomark _)))), fun c H1 s1 => ?_⟩
      refine ⟨_, rfl, a, C, dx, _, _, rfl, s1 _ _ ha, S.cl, S.n1, sayF_names _ _, ka, _, rfl, SqT.of (s1 _ _ hka), fun D hD => ?_⟩
      refine lc_it walk_enumT (fun i H' => Same H1 H' ∧ H' D = some (.lst ((trueTo ns xs i).map natV))) ⟨same_step (Same.refl H1) hD, upd_same⟩ (fun i H' _ z => SqT.of (z.1 _ _ (s1 _ _ hka))) ?_ ?_
      · rintro i v H2 H3 lt ⟨sH, hL⟩ ⟨T, p1, p2, rfl, hT, rfl, e1, e2⟩
        cases e1
        replace e2 : (ns.map V.str)[i]? = some p2 := e2
        rw [List.getElem?_map] at e2
        obtain ⟨n, hn', rfl⟩ := Option.map_eq_some_iff.mp e2
        rw [List.length_map] at lt
        have en : ns.getD i "" = n := by
          rw [List.getD_eq_getElem?_getD, hn']
          rfl
        have nDT : D ≠ T := ne_of_none hL hT
        have s3 : Same H1 (upd H2 T (.tup [.int (i : Nat), .str n])) := same_step sH hT
        have hL3 : upd H2 T (.tup [.int (i : Nat), .str n]) D = some (.lst ((trueTo ns xs i).map natV)) := by
          rw [upd_ne nDT]
          exact hL
        have hT3 : upd H2 T (.tup [.int (i : Nat), .str n]) T = some (.tup [.int (i : Nat), .str n]) := upd_same
        generalize upd H2 T (.tup [.int (i : Nat), .str n]) = H3 at *
        refine ⟨T, _, rfl, SqT.of hT3, rfl, _, _, rfl, _, _, rfl, rfl, rfl, ?_⟩
        refine ⟨_, rfl, _, rfl, l, _, rfl, seq_same (seq_same hl s1) s3, rfl, flat_strs xs, ?_⟩
        rw [inV_str]
        refine ⟨decide (n ∈ xs), rfl, ?_⟩
        by_cases hm : n ∈ xs
        · rw [decide_eq_true hm]
          refine iteT ⟨_, rfl, _, hL3, ?_, same_over s3 hD, ?_⟩
          · rw [List.length_map]
            have h1 := trueTo_len ns xs i
            have h2 : 7 ≤ sizeLine := by decide
            have h3 := nA.six
            omega
          · rw [upd_same, trueTo_succ, en, if_pos hm, List.map_append]
            rfl
        · rw [decide_eq_false hm]
          refine iteF ⟨s3, ?_⟩
          rw [trueTo_succ, en, if_neg hm]
          simpa using hL3
      · rintro H2 ⟨sH, hL⟩
        rw [List.length_map] at hL
        have s2 : Same H H2 := fun b o e => sH b o (s1 b o e)
        refine ⟨D, trueTo ns xs ns.length, rfl, SqL.of hL, fun q hq => ?_, ?_⟩
        · have h1 := List.mem_range.mp (List.mem_filter.mp hq).1
          have h3 := nA.six
          omega
        rw [mask_idx]
        refine ⟨_, rfl, a, C, dx, _, _, rfl, s2 _ _ ha, S.cl, S.n2, sayF_table _ _, _, rfl, t, _, rfl, rfl, trivial, _, 1, rfl, rfl, trivial, rfl, ?_⟩
        have e : decide (natV ((t >>> Tab.idx (fun n => decide (n ∈ xs)) ns) &&& 1) = V.int 1) = φ fun n => decide (n ∈ xs) := by
          rw [← eA]
          unfold Tab.ev
          rw [Nat.testBit_eq_decide_div_mod_eq, Nat.and_one_is_mod, Nat.shiftRight_eq_div_pow]
          have : (natV (t / 2 ^ Tab.idx (fun n => decide (n ∈ xs)) ns % 2) = V.int 1) ↔ t / 2 ^ Tab.idx (fun n => decide (n ∈ xs)) ns % 2 = 1 := ⟨fun z => Int.ofNat.inj (V.int.inj z), fun z => by rw [z]; rfl⟩
          simp only [this]
        rw [e]
        exact k H2 s2
    obtain ⟨T, hT, hq⟩ := rest
    refine ⟨_, pss_cons (ps_for PassesOwn.never rfl (pi_seqV (pv 1)) (pg_name (i := 2) scHolds.nd rfl (Or.inl rfl)) (pss_one (ps_if (pt_not (pt_val (pe_call GN hr rfl mN kN bN .nil pass0 (pa_cons (pv 2) pa_nil)))) (pss_one ps_never) pss_nil))) hT, ?_⟩
    rcases hl with hs | hs
    · refine ⟨l, _, rfl, .inl ⟨hs, for_list (xs := xs.map V.str) (fun i σ H1 => Same H H1 ∧ ∃ c, σ = [some (.ref a), some (.ref l), c, none, none]) ⟨Same.refl H, _, rfl⟩ (fun i σ H1 _ z => sqL_same hs z.1) ?_ ?_⟩⟩
      · rintro i x σ H1 hx ⟨s1, c, rfl⟩
        rw [List.getElem?_map] at hx
        obtain ⟨n, hn, rfl⟩ := Option.map_eq_some_iff.mp hx
        have hN := okx n (List.mem_of_getElem? hn)
        refine ⟨_, rfl, _, rfl, .inl ⟨n, rfl, name_len hN, fun H2 s2 => ⟨_, rfl, ?_⟩⟩⟩
        rw [hN]
        refine iteF ?_
        exact ⟨fun b o e => s2 b o (s1 b o e), some (.str n), rfl⟩
      · rintro σ H1 ⟨s1, c, rfl⟩
        exact hq c H1 s1
    · refine ⟨l, _, rfl, .inr ⟨hs, for_tup (xs := xs.map V.str) (fun i σ H1 => Same H H1 ∧ ∃ c, σ = [some (.ref a), some (.ref l), c, none, none]) ⟨Same.refl H, _, rfl⟩ (fun i σ H1 _ z => sqT_same hs z.1) ?_ ?_⟩⟩
      · rintro i x σ H1 hx ⟨s1, c, rfl⟩
        rw [List.getElem?_map] at hx
        obtain ⟨n, hn, rfl⟩ := Option.map_eq_some_iff.mp hx
        have hN := okx n (List.mem_of_getElem? hn)
        refine ⟨_, rfl, _, rfl, .inl ⟨n, rfl, name_len hN, fun H2 s2 => ⟨_, rfl, ?_⟩⟩⟩
        rw [hN]
        refine iteF ?_
        exact ⟨fun b o e => s2 b o (s1 b o e), some (.str n), rfl⟩
      · rintro σ H1 ⟨s1, c, rfl⟩
        exact hq c H1 s1
end
end Cm

set_option Elab.async false
set_option linter.all false
set_option maxRecDepth 100000
set_option maxHeartbeats 8000000
namespace Cm
open PySem PySem.Spec PyProof.Rows L2 Kv
/-! ### drawn trees of says -/
inductive Op3 | and | or | xor
def Op3.nm : Op3 → Str
  | .and => "and"
  | .or => "or"
  | .xor => "xor"
def Op3.fn : Op3 → Bool → Bool → Bool
  | .and => fun p q => p && q
  | .or => fun p q => p || q
  | .xor => fun p q => p ^^ q
inductive Tr | yes | no | test (n : Str) | not (t : Tr) | bin (o : Op3) (t u : Tr)
def Tr.depth : Tr → Nat
  | .not t => t.depth + 1
  | .bin _ t u => Nat.max t.depth u.depth + 1
  | _ => 0
def Tr.sem : Tr → (Str → Bool) → Bool
  | .yes, _ => true
  | .no, _ => false
  | .test n, c => c n
  | .not t, c => !t.sem c
  | .bin o t u, c => o.fn (t.sem c) (u.sem c)
def Tr.names : Tr → List Str
  | .test n => [n]
  | .not t => t.names
  | .bin _ t u => t.names ++ u.names
  | _ => []
inductive TreeAt (H : Hp) : V → Tr → Prop
  | yes {a : Addr} (h : H a = some (.tup [.str "yes"])) : TreeAt H (.ref a) .yes
  | no {a : Addr} (h : H a = some (.tup [.str "no"])) : TreeAt H (.ref a) .no
  | test {a : Addr} {n : Str} (h : H a = some (.tup [.str "test", .str n])) : TreeAt H (.ref a) (.test n)
  | not {a : Addr} {v : V} {t : Tr} (h : H a = some (.tup [.str "not", v])) (r : TreeAt H v t) : TreeAt H (.ref a) (.not t)
  | bin {a : Addr} {v u : V} {o : Op3} {t t' : Tr} (h : H a = some (.tup [.str o.nm, v, u])) (r : TreeAt H v t) (r' : TreeAt H u t') : TreeAt H (.ref a) (.bin o t t')
theorem TreeAt.same2 {H H' : Hp} {p l : Addr} (hp : ∀ xs, H p ≠ some (.tup xs)) (hl : ∀ xs, H l ≠ some (.tup xs)) (s : Same2 p l H H') {v : V} {t : Tr} (h : TreeAt H v t) : TreeAt H' v t := by
  have keep : ∀ {a : Addr} {xs : List V}, H a = some (.tup xs) → H' a = some (.tup xs) := fun {a xs} e => s a _ e (fun z => hp xs (z ▸ e)) fun z => hl xs (z ▸ e)
  induction h with
  | yes h => exact .yes (keep h)
  | no h => exact .no (keep h)
  | test h => exact .test (keep h)
  | not h _ ih => exact .not (keep h) ih
  | bin h _ _ ih ih' => exact .bin (keep h) ih ih'
theorem TreeAt.same {H H' : Hp} (s : Same H H') {v : V} {t : Tr} (h : TreeAt H v t) : TreeAt H' v t := by
  induction h with
  | yes h => exact .yes (s _ _ h)
  | no h => exact .no (s _ _ h)
  | test h => exact .test (s _ _ h)
  | not h _ ih => exact .not (s _ _ h) ih
  | bin h _ _ ih ih' => exact .bin (s _ _ h) ih ih'
/-- no call is made -/
def spNever : Sp := fun _ _ _ _ => False
theorem never_ok {P : Program} {w : World} {K : PySem.W.Frag} {mg : Str → Option Value} {base : Heap} {k : Nat} {f : Addr} {fd : FuncData} {ps : List Str} : FnOk P w K mg base CX0 k f fd ps spNever where
  len := fun _ _ _ _ h => h.elim
  run := fun _ _ _ _ _ _ _ _ _ _ _ _ _ h => h.elim
/-- whether a tree's say holds: of trees no deeper than d -/
def spHold (K : PySem.W.Frag) (d : Nat) : Sp := fun vs H Q _ => ∃ (v : V) (l : Addr) (t : Tr) (xs : List Str), vs = [v, .ref l] ∧ TreeAt H v t ∧ t.depth ≤ d ∧ (SqL K H l (xs.map V.str) ∨ SqT K H l (xs.map V.str)) ∧ ∀ H', Same H H' → Q (.bl (t.sem fun n => decide (n ∈ xs))) H'
def prev (sp : Nat → Sp) : Nat → Sp
  | 0 => spNever
  | d + 1 => sp d
section
variable {P : Program} {w : World} {K : PySem.W.Frag} {mg : Str → Option Value} {base : Heap}
theorem scHold : FnScope ["_law_tree_here", "_law_true", "_law_first", "_law_second"] ["_law_tree_here", "_law_true"] (defScope s_l_holds) := ⟨rfl, rfl, rfl, by decide +kernel, rfl, by decide +kernel, by decide +kernel⟩
theorem hold_step {f : Addr} {fd : FuncData} (d : Nat) (F : Fun K "_law_holds" "_law_holds" s_l_holds f fd) (mF : mg "_law_holds" = some (.ref f)) (bF : Binds K fd ["_law_tree_here", "_law_true"] [])
    (G : FnOk P w K mg base CX0 d f fd ["_law_tree_here", "_law_true"] (prev (spHold K) d)) : FnOk P w K mg base CX0 (d + 1) f fd ["_law_tree_here", "_law_true"] (spHold K d) := by
  refine F.ok scHold (fun vs H Q E h => ?_) (fun cdv A outer s H vs Q E hr h => ?_)
  · obtain ⟨v, l, t, xs, rfl, _⟩ := h
    rfl
  · obtain ⟨v, l, t, xs, rfl, hT, hd, hl, k⟩ := h
    refine ⟨_, pss_cons (ps_if (pt_cmpR op_in_seq (pe_ix ix_tup (pv 0) pe_int (fun _ _ => rfl)) (pe_tup (pa_cons pe_str (pa_cons pe_str pa_nil))) (by rfl))
        (pss_one (ps_ret (pe_cmpR op_eq (pe_ix ix_tup (pv 0) pe_int (fun _ _ => rfl)) pe_str (nomark _)))) pss_nil)
      (pss_cons (ps_if (pt_cmpR op_eq (pe_ix ix_tup (pv 0) pe_int (fun _ _ => rfl)) pe_str (nomark _)) (pss_one (ps_ret (pe_cmpR op_in_seq (pe_ix ix_tup (pv 0) pe_int (fun _ _ => rfl)) (pv 1) (by rfl)))) pss_nil)
      (pss_cons (ps_set (i := 2) scHold.nd rfl (Or.inl rfl) (pe_call G hr rfl mF F.kp bF .nil pass0 (pa_cons (pe_ix ix_tup (pv 0) pe_int (fun _ _ => rfl)) (pa_cons (pv 1) pa_nil))))
      (pss_cons (ps_if (pt_cmpR op_eq (pe_ix ix_tup (pv 0) pe_int (fun _ _ => rfl)) pe_str (nomark _)) (pss_one (ps_ret (pe_not (pv 2)))) pss_nil)
      (pss_cons (ps_set (i := 3) scHold.nd rfl (Or.inl rfl) (pe_call G hr rfl mF F.kp bF .nil pass0 (pa_cons (pe_ix ix_tup (pv 0) pe_int (fun _ _ => rfl)) (pa_cons (pv 1) pa_nil))))
      (pss_cons (ps_if (pt_cmpR op_eq (pe_ix ix_tup (pv 0) pe_int (fun _ _ => rfl)) pe_str (nomark _)) (pss_one (ps_ret (pe_cmpR op_ne (pv 2) (pv 3) (nomark _)))) pss_nil)
      (pss_one (ps_ret (pe_ifExp (pt_cmpR op_eq (pe_ix ix_tup (pv 0) pe_int (fun _ _ => rfl)) pe_str (nomark _)) (pe_and (pv 2) (pe_one (pv 3))) (pe_or (pv 2) (pe_one (pv 3))))))))))), ?_⟩
    cases hT with
    | @yes a h =>
      refine ⟨_, rfl, a, _, _, _, rfl, rfl, SqT.of h, at_of (j := 0) rfl rfl, (by show 2 ≤ sizeLine; decide), fun q hq => ?_⟩
      have s1 := same_step (o := .tup [.str "yes", .str "no"]) (Same.refl H) hq
      have hq1 : upd H q (.tup [.str "yes", .str "no"]) q = some (.tup [.str "yes", .str "no"]) := upd_same
      generalize upd H q (.tup [.str "yes", .str "no"]) = H1 at *
      have h1 := s1 _ _ h
      refine ⟨q, _, rfl, .inr (SqT.of hq1), rfl, rfl, true, by decide +kernel, iteT ?_⟩
      refine ⟨_, rfl, a, _, _, _, rfl, rfl, SqT.of h1, at_of (j := 0) rfl rfl, rfl, ?_⟩
      rw [show decide (V.str "yes" = V.str "yes") = true from by decide +kernel]
      exact k H1 s1
    | @no a h =>
      refine ⟨_, rfl, a, _, _, _, rfl, rfl, SqT.of h, at_of (j := 0) rfl rfl, (by show 2 ≤ sizeLine; decide), fun q hq => ?_⟩
      have s1 := same_step (o := .tup [.str "yes", .str "no"]) (Same.refl H) hq
      have hq1 : upd H q (.tup [.str "yes", .str "no"]) q = some (.tup [.str "yes", .str "no"]) := upd_same
      generalize upd H q (.tup [.str "yes", .str "no"]) = H1 at *
      have h1 := s1 _ _ h
      refine ⟨q, _, rfl, .inr (SqT.of hq1), rfl, rfl, true, by decide +kernel, iteT ?_⟩
      refine ⟨_, rfl, a, _, _, _, rfl, rfl, SqT.of h1, at_of (j := 0) rfl rfl, rfl, ?_⟩
      rw [show decide (V.str "no" = V.str "yes") = false from by decide +kernel]
      exact k H1 s1
    | @test a n h =>
      refine ⟨_, rfl, a, _, _, _, rfl, rfl, SqT.of h, at_of (j := 0) rfl rfl, (by show 2 ≤ sizeLine; decide), fun q hq => ?_⟩
      have s1 := same_step (o := .tup [.str "yes", .str "no"]) (Same.refl H) hq
      have hq1 : upd H q (.tup [.str "yes", .str "no"]) q = some (.tup [.str "yes", .str "no"]) := upd_same
      generalize upd H q (.tup [.str "yes", .str "no"]) = H1 at *
      have h1 := s1 _ _ h
      refine ⟨q, _, rfl, .inr (SqT.of hq1), rfl, rfl, false, by decide +kernel, iteF ?_⟩
      refine ⟨_, rfl, a, _, _, _, rfl, rfl, SqT.of h1, at_of (j := 0) rfl rfl, rfl, true, by decide +kernel, iteT ?_⟩
      refine ⟨_, rfl, a, _, _, _, rfl, rfl, SqT.of h1, at_of (j := 1) rfl rfl, _, rfl, l, _, rfl, seq_same hl s1, rfl, flat_strs xs, ?_⟩
      rw [inV_str]
      exact k H1 s1
    | @not a v t h r =>
      refine ⟨_, rfl, a, _, _, _, rfl, rfl, SqT.of h, at_of (j := 0) rfl rfl, (by show 2 ≤ sizeLine; decide), fun q hq => ?_⟩
      have s1 := same_step (o := .tup [.str "yes", .str "no"]) (Same.refl H) hq
      have hq1 : upd H q (.tup [.str "yes", .str "no"]) q = some (.tup [.str "yes", .str "no"]) := upd_same
      generalize upd H q (.tup [.str "yes", .str "no"]) = H1 at *
      have h1 := s1 _ _ h
      refine ⟨q, _, rfl, .inr (SqT.of hq1), rfl, rfl, false, by decide +kernel, iteF ?_⟩
      refine ⟨_, rfl, a, _, _, _, rfl, rfl, SqT.of h1, at_of (j := 0) rfl rfl, rfl, false, by decide +kernel, iteF ?_⟩
      cases d with
      | zero => exact absurd hd (Nat.not_succ_le_zero _)
      | succ d =>
        refine ⟨_, rfl, a, _, _, _, rfl, rfl, SqT.of h1, at_of (j := 1) rfl rfl, _, rfl, v, l, t, xs, rfl, r.same s1, Nat.le_of_succ_le_succ hd, seq_same hl s1, fun H2 s2 => ?_⟩
        have s12 : Same H H2 := fun b o e => s2 b o (s1 b o e)
        refine ⟨_, rfl, a, _, _, _, rfl, rfl, SqT.of (s12 _ _ h), at_of (j := 0) rfl rfl, rfl, true, by decide +kernel, iteT ?_⟩
        exact ⟨_, rfl, _, rfl, k H2 s12⟩
    | @bin a v u o t t' h r r' =>
      refine ⟨_, rfl, a, _, _, _, rfl, rfl, SqT.of h, at_of (j := 0) rfl rfl, (by show 2 ≤ sizeLine; decide), fun q hq => ?_⟩
      have s1 := same_step (o := .tup [.str "yes", .str "no"]) (Same.refl H) hq
      have hq1 : upd H q (.tup [.str "yes", .str "no"]) q = some (.tup [.str "yes", .str "no"]) := upd_same
      generalize upd H q (.tup [.str "yes", .str "no"]) = H1 at *
      have h1 := s1 _ _ h
      refine ⟨q, _, rfl, .inr (SqT.of hq1), rfl, rfl, false, by cases o <;> decide +kernel, iteF ?_⟩
      refine ⟨_, rfl, a, _, _, _, rfl, rfl, SqT.of h1, at_of (j := 0) rfl rfl, rfl, false, by cases o <;> decide +kernel, iteF ?_⟩
      cases d with
      | zero => exact absurd hd (Nat.not_succ_le_zero _)
      | succ d =>
        have hd' : Nat.max t.depth t'.depth ≤ d := Nat.le_of_succ_le_succ hd
        refine ⟨_, rfl, a, _, _, _, rfl, rfl, SqT.of h1, at_of (j := 1) rfl rfl, _, rfl, v, l, t, xs, rfl, r.same s1, Nat.le_trans (Nat.le_max_left _ _) hd', seq_same hl s1, fun H2 s2 => ?_⟩
        have s12 : Same H H2 := fun b o e => s2 b o (s1 b o e)
        refine ⟨_, rfl, a, _, _, _, rfl, rfl, SqT.of (s12 _ _ h), at_of (j := 0) rfl rfl, rfl, false, by cases o <;> decide +kernel, iteF ?_⟩
        refine ⟨_, rfl, a, _, _, _, rfl, rfl, SqT.of (s12 _ _ h), at_of (j := 2) rfl rfl, _, rfl, u, l, t', xs, rfl, r'.same s12, Nat.le_trans (Nat.le_max_right _ _) hd', seq_same hl s12, fun H3 s3 => ?_⟩
        have s13 : Same H H3 := fun b o e => s3 b o (s12 b o e)
        have fin := k H3 s13
        refine ⟨_, rfl, a, _, _, _, rfl, rfl, SqT.of (s13 _ _ h), at_of (j := 0) rfl rfl, rfl, ?_⟩
        unfold Tr.sem at fin
        generalize t.sem (fun n => decide (n ∈ xs)) = p1 at *
        generalize t'.sem (fun n => decide (n ∈ xs)) = p2 at *
        cases o with
        | xor =>
          refine ⟨true, by decide +kernel, iteT ?_⟩
          refine ⟨_, rfl, _, rfl, rfl, ?_⟩
          have e : (!decide (V.bl p1 = V.bl p2)) = (p1 ^^ p2) := by cases p1 <;> cases p2 <;> decide +kernel
          rw [e]
          exact fin
        | and =>
          refine ⟨false, by decide +kernel, iteF ?_⟩
          refine ⟨_, rfl, a, _, _, _, rfl, rfl, SqT.of (s13 _ _ h), at_of (j := 0) rfl rfl, rfl, true, by decide +kernel, iteT ?_⟩
          refine ⟨_, rfl, p1, rfl, ?_⟩
          cases p1 with
          | true => exact iteT ⟨_, rfl, fin⟩
          | false => exact iteF fin
        | or =>
          refine ⟨false, by decide +kernel, iteF ?_⟩
          refine ⟨_, rfl, a, _, _, _, rfl, rfl, SqT.of (s13 _ _ h), at_of (j := 0) rfl rfl, rfl, false, by decide +kernel, iteF ?_⟩
          refine ⟨_, rfl, p1, rfl, ?_⟩
          cases p1 with
          | true => exact iteT fin
          | false => exact iteF ⟨_, rfl, fin⟩
theorem ok_hold {f : Addr} {fd : FuncData} (F : Fun K "_law_holds" "_law_holds" s_l_holds f fd) (mF : mg "_law_holds" = some (.ref f)) (bF : Binds K fd ["_law_tree_here", "_law_true"] []) :
    ∀ d, FnOk P w K mg base CX0 (d + 1) f fd ["_law_tree_here", "_law_true"] (spHold K d)
  | 0 => hold_step 0 F mF bF never_ok
  | d + 1 => hold_step (d + 1) F mF bF (ok_hold F mF bF d)
end
end Cm

set_option Elab.async false
set_option linter.all false
set_option maxRecDepth 100000
set_option maxHeartbeats 8000000
namespace Cm
open PySem PySem.Spec PyProof.Rows L2 Kv
/-- an operator of the class -/
structure On (P : Program) (w : World) (K : PySem.W.Frag) (mg : Str → Option Value) (base : Heap) (C : Addr) (x : Str) (ps : List Str) (k : Nat) (sp : Sp) : Prop where
  ex : ∃ g fd, PySem.W.findIn K (.ref C) x = some (some (.ref g)) ∧ PySem.W.isFn K (.ref g) = true ∧ FnOk P w K mg base CX0 k g fd ps sp ∧ Binds K fd ps []
/-- a static method of the class -/
structure Tn (P : Program) (w : World) (K : PySem.W.Frag) (mg : Str → Option Value) (base : Heap) (C : Addr) (x : Str) (ps : List Str) (k : Nat) (sp : Sp) : Prop where
  ex : ∃ mc p g fd, SMet K C mc x p g ∧ FnOk P w K mg base CX0 k g fd ps sp ∧ Binds K fd ps []
structure Sz (P : Program) (w : World) (K : PySem.W.Frag) (mg : Str → Option Value) (base : Heap) (C : Addr) : Prop where
  mgC : mg "Say" = some (.ref C)
  sf : PySem.W.selfFirst K C = true
  test : Tn P w K mg base C "test" ["name"] 7 (spTest C)
  yes : Tn P w K mg base C "yes" [] 7 (spConst C true)
  no : Tn P w K mg base C "no" [] 7 (spConst C false)
  and : On P w K mg base C "__and__" ["self", "other"] 7 (spBin C fun p q => p && q)
  or : On P w K mg base C "__or__" ["self", "other"] 7 (spBin C fun p q => p || q)
  xor : On P w K mg base C "__xor__" ["self", "other"] 7 (spBin C fun p q => p ^^ q)
  inv : On P w K mg base C "__invert__" ["self"] 7 (spInv C)
theorem IsSay.mono {H : Hp} {C a : Addr} {U V' : List Str} {φ : (Str → Bool) → Bool} (h : IsSay H C a U φ) (s : ∀ n ∈ U, n ∈ V') : IsSay H C a V' φ := by
  obtain ⟨ns, t, h1, h2, h3, h4⟩ := h
  exact ⟨ns, t, h1, h2, fun n hn => s n (h3 n hn), h4⟩
theorem IsSay.at_ {H : Hp} {C a : Addr} {U : List Str} {φ : (Str → Bool) → Bool} (h : IsSay H C a U φ) : ∃ dx fs, H a = some (.ins C dx fs) := by
  obtain ⟨ns, t, ⟨dx, k, h1, _⟩, _⟩ := h
  exact ⟨dx, _, h1⟩
/-- the say of a tree no deeper than d -/
def spSay (C : Addr) (d : Nat) : Sp := fun vs H Q _ => ∃ (v : V) (t : Tr) (U : List Str), vs = [v] ∧ TreeAt H v t ∧ t.depth ≤ d ∧ (∀ n ∈ t.names, n ∈ U) ∧ (∀ n ∈ U, isName n = true) ∧ U.length ≤ 6 ∧
  ∀ x H', Same H H' → H x = none → IsSay H' C x U t.sem → Q (.ref x) H'
section
variable {P : Program} {w : World} {K : PySem.W.Frag} {mg : Str → Option Value} {base : Heap} {C : Addr}
theorem scSay : FnScope ["_law_tree_here", "_law_first", "_law_second"] ["_law_tree_here"] (defScope s_l_say) := ⟨rfl, rfl, rfl, by decide +kernel, rfl, by decide +kernel, by decide +kernel⟩
theorem say_step {f : Addr} {fd : FuncData} (d : Nat) (S : Sz P w K mg base C) (F : Fun K "_law_say" "_law_say" s_l_say f fd) (mF : mg "_law_say" = some (.ref f)) (bF : Binds K fd ["_law_tree_here"] [])
    (G : FnOk P w K mg base CX0 (d + 7) f fd ["_law_tree_here"] (prev (spSay C) d)) : FnOk P w K mg base CX0 (d + 8) f fd ["_law_tree_here"] (spSay C d) := by
  obtain ⟨mc1, p1, g1, fd1, M1, G1, b1⟩ := S.test.ex
  obtain ⟨mc2, p2, g2, fd2, M2, G2, b2⟩ := S.yes.ex
  obtain ⟨mc3, p3, g3, fd3, M3, G3, b3⟩ := S.no.ex
  obtain ⟨g4, fd4, A4, f4, G4, b4⟩ := S.and.ex
  obtain ⟨g5, fd5, A5, f5, G5, b5⟩ := S.or.ex
  obtain ⟨g6, fd6, A6, f6, G6, b6⟩ := S.xor.ex
  obtain ⟨g7, fd7, A7, f7, G7, b7⟩ := S.inv.ex
  refine F.ok scSay (fun vs H Q E h => ?_) (fun cdv A outer s H vs Q E hr h => ?_)
  · obtain ⟨v, t, U, rfl, _⟩ := h
    rfl
  · obtain ⟨v, t, U, rfl, hT, hd, hU, okU, six, k⟩ := h
    have h7 : Room 7 (A.deeper (envOfC "_law_say" (defScope s_l_say) s.heap.objs.size f cdv)) := hr.mono (by omega)
    refine ⟨_, pss_cons (ps_if (pt_cmpR op_eq (pe_ix ix_tup (pv 0) pe_int (fun _ _ => rfl)) pe_str (nomark _)) (pss_one (ps_ret (pe_smeth (pe_glob (by rfl) S.mgC (v := .ref C) rfl) M1 G1 h7 b1 pass0 (pa_cons (pe_ix ix_tup (pv 0) pe_int (fun _ _ => rfl)) pa_nil)))) pss_nil)
      (pss_cons (ps_if (pt_cmpR op_in_seq (pe_ix ix_tup (pv 0) pe_int (fun _ _ => rfl)) (pe_tup (pa_cons pe_str (pa_cons pe_str pa_nil))) (by rfl))
        (pss_one (ps_ret (pe_ifExp (pt_cmpR op_eq (pe_ix ix_tup (pv 0) pe_int (fun _ _ => rfl)) pe_str (nomark _)) (pe_smeth0 (pe_glob (by rfl) S.mgC (v := .ref C) rfl) M2 G2 h7 b2 pass0) (pe_smeth0 (pe_glob (by rfl) S.mgC (v := .ref C) rfl) M3 G3 h7 b3 pass0)))) pss_nil)
      (pss_cons (ps_set (i := 1) scSay.nd rfl (Or.inl rfl) (pe_call G hr (by rfl) mF F.kp bF .nil pass0 (pa_cons (pe_ix ix_tup (pv 0) pe_int (fun _ _ => rfl)) pa_nil)))
      (pss_cons (ps_if (pt_cmpR op_eq (pe_ix ix_tup (pv 0) pe_int (fun _ _ => rfl)) pe_str (nomark _)) (pss_one (ps_ret (pe_un (un_invI A7 f7 G7 h7 b7 pass0) (pv 1)))) pss_nil)
      (pss_cons (ps_set (i := 2) scSay.nd rfl (Or.inl rfl) (pe_call G hr (by rfl) mF F.kp bF .nil pass0 (pa_cons (pe_ix ix_tup (pv 0) pe_int (fun _ _ => rfl)) pa_nil)))
      (pss_cons (ps_if (pt_cmpR op_eq (pe_ix ix_tup (pv 0) pe_int (fun _ _ => rfl)) pe_str (nomark _)) (pss_one (ps_ret (pe_op (op_binI (op := .BitXor) S.sf A6 f6 G6 h7 b6 pass0) (pv 1) (pv 2)))) pss_nil)
      (pss_one (ps_ret (pe_ifExp (pt_cmpR op_eq (pe_ix ix_tup (pv 0) pe_int (fun _ _ => rfl)) pe_str (nomark _)) (pe_op (op_binI (op := .BitAnd) S.sf A4 f4 G4 h7 b4 pass0) (pv 1) (pv 2)) (pe_op (op_binI (op := .BitOr) S.sf A5 f5 G5 h7 b5 pass0) (pv 1) (pv 2)))))))))), ?_⟩
    cases hT with
    | @test a n h =>
      refine ⟨_, rfl, a, _, _, _, rfl, rfl, SqT.of (h), at_of (j := 0) rfl rfl, rfl, true, by decide +kernel, iteT ?_⟩
      refine ⟨rfl, _, rfl, a, _, _, _, rfl, rfl, SqT.of h, at_of (j := 1) rfl rfl, n, rfl, okU n (hU n (List.mem_singleton.mpr rfl)), fun x H' s' nx is => k x H' s' nx (is.mono fun m hm => ?_)⟩
      rw [List.mem_singleton.mp hm]
      exact hU n (List.mem_singleton.mpr rfl)
    | @yes a h =>
      refine ⟨_, rfl, a, _, _, _, rfl, rfl, SqT.of (h), at_of (j := 0) rfl rfl, rfl, false, by decide +kernel, iteF ?_⟩
      refine ⟨_, rfl, a, _, _, _, rfl, rfl, SqT.of h, at_of (j := 0) rfl rfl, (by show 2 ≤ sizeLine; decide), fun q hq => ?_⟩
      have s1 := same_step (o := .tup [.str "yes", .str "no"]) (Same.refl H) hq
      have hq1 : upd H q (.tup [.str "yes", .str "no"]) q = some (.tup [.str "yes", .str "no"]) := upd_same
      generalize upd H q (.tup [.str "yes", .str "no"]) = H1 at *
      have h1 := s1 _ _ h
      refine ⟨q, _, rfl, .inr (SqT.of hq1), rfl, rfl, true, by decide +kernel, iteT ?_⟩
      refine ⟨_, rfl, a, _, _, _, rfl, rfl, SqT.of (h1), at_of (j := 0) rfl rfl, rfl, true, by decide +kernel, iteT ?_⟩
      exact ⟨rfl, rfl, fun x H' s' nx is => k x H' (fun b o e => s' b o (s1 b o e)) (s1.free nx) (is.mono fun m hm => by cases hm)⟩
    | @no a h =>
      refine ⟨_, rfl, a, _, _, _, rfl, rfl, SqT.of (h), at_of (j := 0) rfl rfl, rfl, false, by decide +kernel, iteF ?_⟩
      refine ⟨_, rfl, a, _, _, _, rfl, rfl, SqT.of h, at_of (j := 0) rfl rfl, (by show 2 ≤ sizeLine; decide), fun q hq => ?_⟩
      have s1 := same_step (o := .tup [.str "yes", .str "no"]) (Same.refl H) hq
      have hq1 : upd H q (.tup [.str "yes", .str "no"]) q = some (.tup [.str "yes", .str "no"]) := upd_same
      generalize upd H q (.tup [.str "yes", .str "no"]) = H1 at *
      have h1 := s1 _ _ h
      refine ⟨q, _, rfl, .inr (SqT.of hq1), rfl, rfl, true, by decide +kernel, iteT ?_⟩
      refine ⟨_, rfl, a, _, _, _, rfl, rfl, SqT.of (h1), at_of (j := 0) rfl rfl, rfl, false, by decide +kernel, iteF ?_⟩
      exact ⟨rfl, rfl, fun x H' s' nx is => k x H' (fun b o e => s' b o (s1 b o e)) (s1.free nx) (is.mono fun m hm => by cases hm)⟩
    | @not a v t h r =>
      refine ⟨_, rfl, a, _, _, _, rfl, rfl, SqT.of (h), at_of (j := 0) rfl rfl, rfl, false, by decide +kernel, iteF ?_⟩
      refine ⟨_, rfl, a, _, _, _, rfl, rfl, SqT.of h, at_of (j := 0) rfl rfl, (by show 2 ≤ sizeLine; decide), fun q hq => ?_⟩
      have s1 := same_step (o := .tup [.str "yes", .str "no"]) (Same.refl H) hq
      have hq1 : upd H q (.tup [.str "yes", .str "no"]) q = some (.tup [.str "yes", .str "no"]) := upd_same
      generalize upd H q (.tup [.str "yes", .str "no"]) = H1 at *
      have h1 := s1 _ _ h
      refine ⟨q, _, rfl, .inr (SqT.of hq1), rfl, rfl, false, by decide +kernel, iteF ?_⟩
      cases d with
      | zero => exact absurd hd (Nat.not_succ_le_zero _)
      | succ d =>
        refine ⟨_, rfl, a, _, _, _, rfl, rfl, SqT.of h1, at_of (j := 1) rfl rfl, v, t, U, rfl, r.same s1, Nat.le_of_succ_le_succ hd, hU, okU, six, fun x H2 s2 nx is => ?_⟩
        have s12 : Same H H2 := fun b o e => s2 b o (s1 b o e)
        refine ⟨_, rfl, a, _, _, _, rfl, rfl, SqT.of (s12 _ _ h), at_of (j := 0) rfl rfl, rfl, true, by decide +kernel, iteT ?_⟩
        obtain ⟨dx, fs, hx⟩ := is.at_
        refine ⟨_, rfl, x, dx, fs, rfl, hx, x, U, t.sem, rfl, is, six, fun y H3 s3 ny iy => k y H3 (fun b o e => s3 b o (s12 b o e)) (s12.free ny) iy⟩
    | @bin a v u o t t' h r r' =>
      refine ⟨_, rfl, a, _, _, _, rfl, rfl, SqT.of h, at_of (j := 0) rfl rfl, rfl, false, by cases o <;> decide +kernel, iteF ?_⟩
      refine ⟨_, rfl, a, _, _, _, rfl, rfl, SqT.of h, at_of (j := 0) rfl rfl, (by show 2 ≤ sizeLine; decide), fun q hq => ?_⟩
      have s1 := same_step (o := .tup [.str "yes", .str "no"]) (Same.refl H) hq
      have hq1 : upd H q (.tup [.str "yes", .str "no"]) q = some (.tup [.str "yes", .str "no"]) := upd_same
      generalize upd H q (.tup [.str "yes", .str "no"]) = H1 at *
      have h1 := s1 _ _ h
      refine ⟨q, _, rfl, .inr (SqT.of hq1), rfl, rfl, false, by cases o <;> decide +kernel, iteF ?_⟩
      cases d with
      | zero => exact absurd hd (Nat.not_succ_le_zero _)
      | succ d =>
        have hd' : Nat.max t.depth t'.depth ≤ d := Nat.le_of_succ_le_succ hd
        refine ⟨_, rfl, a, _, _, _, rfl, rfl, SqT.of h1, at_of (j := 1) rfl rfl, v, t, U, rfl, r.same s1, Nat.le_trans (Nat.le_max_left _ _) hd', (fun n hn => hU n (List.mem_append_left _ hn)), okU, six, fun x H2 s2 nx ix => ?_⟩
        have s12 : Same H H2 := fun b o e => s2 b o (s1 b o e)
        refine ⟨_, rfl, a, _, _, _, rfl, rfl, SqT.of (s12 _ _ h), at_of (j := 0) rfl rfl, rfl, false, by cases o <;> decide +kernel, iteF ?_⟩
        refine ⟨_, rfl, a, _, _, _, rfl, rfl, SqT.of (s12 _ _ h), at_of (j := 2) rfl rfl, u, t', U, rfl, r'.same s12, Nat.le_trans (Nat.le_max_right _ _) hd', (fun n hn => hU n (List.mem_append_right _ hn)), okU, six, fun y H3 s3 ny iy => ?_⟩
        have s13 : Same H H3 := fun b o e => s3 b o (s12 b o e)
        have ix3 := ix.same s3
        obtain ⟨dx, fs, hx⟩ := ix3.at_
        obtain ⟨dy, gs, hy⟩ := iy.at_
        refine ⟨_, rfl, a, _, _, _, rfl, rfl, SqT.of (s13 _ _ h), at_of (j := 0) rfl rfl, rfl, ?_⟩
        cases o with
        | xor =>
          refine ⟨true, by decide +kernel, iteT ?_⟩
          exact ⟨_, rfl, _, rfl, x, y, dx, dy, fs, gs, rfl, rfl, hx, hy, x, y, U, t.sem, t'.sem, rfl, ix3, iy, six, fun z H4 s4 nz iz => k z H4 (fun b o e => s4 b o (s13 b o e)) (s13.free nz) iz⟩
        | and =>
          refine ⟨false, by decide +kernel, iteF ?_⟩
          refine ⟨_, rfl, a, _, _, _, rfl, rfl, SqT.of (s13 _ _ h), at_of (j := 0) rfl rfl, rfl, true, by decide +kernel, iteT ?_⟩
          exact ⟨_, rfl, _, rfl, x, y, dx, dy, fs, gs, rfl, rfl, hx, hy, x, y, U, t.sem, t'.sem, rfl, ix3, iy, six, fun z H4 s4 nz iz => k z H4 (fun b o e => s4 b o (s13 b o e)) (s13.free nz) iz⟩
        | or =>
          refine ⟨false, by decide +kernel, iteF ?_⟩
          refine ⟨_, rfl, a, _, _, _, rfl, rfl, SqT.of (s13 _ _ h), at_of (j := 0) rfl rfl, rfl, false, by decide +kernel, iteF ?_⟩
          exact ⟨_, rfl, _, rfl, x, y, dx, dy, fs, gs, rfl, rfl, hx, hy, x, y, U, t.sem, t'.sem, rfl, ix3, iy, six, fun z H4 s4 nz iz => k z H4 (fun b o e => s4 b o (s13 b o e)) (s13.free nz) iz⟩
theorem ok_say {f : Addr} {fd : FuncData} (S : Sz P w K mg base C) (F : Fun K "_law_say" "_law_say" s_l_say f fd) (mF : mg "_law_say" = some (.ref f)) (bF : Binds K fd ["_law_tree_here"] []) : ∀ d, FnOk P w K mg base CX0 (d + 8) f fd ["_law_tree_here"] (spSay C d)
  | 0 => say_step 0 S F mF bF never_ok
  | d + 1 => say_step (d + 1) S F mF bF (ok_say S F mF bF d)
end
end Cm

set_option Elab.async false
set_option linter.all false
set_option maxRecDepth 100000
set_option maxHeartbeats 8000000
/-! a <= b, a < b by the class's own methods; a |= b where the class has | alone. -/
namespace Kv
open PySem PySem.Spec PyProof.Rows L2
section
variable {X : Cx} {C g : Addr} {fd : FuncData} {ps : List Str} {sp : Sp} {CX : CXT} {n : Nat} {E : XK}
theorem cmp_own {op : CmpOp} {pins : List (Addr × Obj)} {σ : L2.St} {H : Hp} {s : Shared} {a b dx dy : Addr} {fs gs : List (Str × V)} {Q : VK} (hs : PySem.W.findIn X.K (.ref C) (cmpInfo op).2.1 = some (some (.ref g))) (hf : PySem.W.isFn X.K (.ref g) = true)
    (F : FnOk X.prog X.w X.K X.mg X.base CX n g fd ps sp) (hr : Room n X.A) (hb : Binds X.K fd ps []) (hx : Passes CX X E) (I : Inv X pins σ H s) (ha : H a = some (.ins C dx fs)) (hb' : H b = some (.ins C dy gs)) (q : sp [.ref a, .ref b] H Q E) :
    wpAny (model X.prog X.w) X.A (richCompare op (.ref a) (.ref b)) (EP X pins σ Q) X.xe s := by
  obtain ⟨od, J⟩ := ins_at I ha
  obtain ⟨od', J'⟩ := ins_at I hb'
  obtain ⟨m, hF⟩ := I.fr
  refine PySem.W.cmp_K (op := op) (tb := .ref C) hr.units0 hF I.ok.mod.kin J J'.type (by simp [PySem.W.notFirst]) hs hf ?_
  refine wpAny_mono (run_fn (us := [.ref a, .ref b]) (vs := [.ref a, .ref b]) F hr hb .nil hx I (.cons rfl (.cons rfl .nil)) (by simpa using q)) (fun w s' z => ?_) fun _ _ x => x
  obtain ⟨z', H', I', rz, qz⟩ := z
  exact val_back rz ⟨z', H', I', rz, qz⟩
theorem op_leI (hs : PySem.W.findIn X.K (.ref C) "__le__" = some (some (.ref g))) (hf : PySem.W.isFn X.K (.ref g) = true)
    (F : FnOk X.prog X.w X.K X.mg X.base CX n g fd ps sp) (hr : Room n X.A) (hb : Binds X.K fd ps []) (hx : Passes CX X E) : OpR X (compareOp .LtE) (rBinI C sp E) := by
  intro pins s σ H x y v u Q I rx ry h
  obtain ⟨a, b, dx, dy, fs, gs, rfl, rfl, ha, hb', q⟩ := h
  cases (show v = Value.ref a from rx)
  cases (show u = Value.ref b from ry)
  exact cmp_own (op := .LtE) hs hf F hr hb hx I ha hb' q
theorem op_ltI (hs : PySem.W.findIn X.K (.ref C) "__lt__" = some (some (.ref g))) (hf : PySem.W.isFn X.K (.ref g) = true)
    (F : FnOk X.prog X.w X.K X.mg X.base CX n g fd ps sp) (hr : Room n X.A) (hb : Binds X.K fd ps []) (hx : Passes CX X E) : OpR X (compareOp .Lt) (rBinI C sp E) := by
  intro pins s σ H x y v u Q I rx ry h
  obtain ⟨a, b, dx, dy, fs, gs, rfl, rfl, ha, hb', q⟩ := h
  cases (show v = Value.ref a from rx)
  cases (show u = Value.ref b from ry)
  exact cmp_own (op := .Lt) hs hf F hr hb hx I ha hb' q
end
/-- the class stands right over object -/
def mro2 (K : PySem.W.Frag) (C : Addr) : Bool := (PySem.W.clsIn K C).any fun cd => cd.mro == [.ref C, .type "object"]
section
variable {prog : Program} {w : World} {A : Around} {E : Value → Shared → Prop} {s : Shared} {K : PySem.W.Frag} {x C f : Addr} {ox : Obj} {od : Option Obj} {b : Value}
theorem fills_no {M : Model} {h : Heap} {nm : String} {add : Bool} {cd : ClassData} (X : K.In h) (hc : PySem.W.clsIn K C = some cd) (hm : cd.mro = [.ref C, .type "object"]) (h1 : PySem.W.findIn K (.ref C) (dunderI nm) = some none)
    (h2 : PySem.W.findIn K (.type "object") (dunderI nm) = some none) : PySem.W.Looks M h (fillsInplaceSlot (.ref C) nm add) false := by
  intro A Q E s k q
  have Lm : PySem.W.Looks M h (mroOf (.ref C)) cd.mro := (PySem.W.looks_clsIn X hc).andThen (f := fun cd => pure cd.mro) .now
  have Lm' := Lm.keeps k
  obtain ⟨hh, g, d, tt, os⟩ := s
  have X' : K.In hh := X.keeps k
  have L1 : PySem.W.Looks M hh (typeLookup (.ref C) (dunderI nm)) none := PySem.W.looks_findIn X' h1
  have L2 : PySem.W.Looks M hh (typeLookup (.type "object") (dunderI nm)) none := PySem.W.looks_findIn X' h2
  unfold fillsInplaceSlot
  refine wpAny_bind (Lm'.at ?_)
  rw [hm, List.anyM_cons]
  refine wpAny_bind (wpAny_bind (L1.at ?_))
  refine wpAny_pure ?_
  show wpAny _ _ (List.anyM _ _) _ _ _
  rw [List.anyM_cons]
  refine wpAny_bind (wpAny_bind (L2.at ?_))
  refine wpAny_pure ?_
  show wpAny _ _ (List.anyM _ _) _ _ _
  rw [List.anyM_nil]
  exact wpAny_pure q
theorem inplace_bin {op : Operator} {Q : Value → Shared → Prop} (X : K.In s.heap) (I : PySem.W.InstAt s.heap x ox C od) (hb : PySem.W.Looks (model prog w) s.heap (typeOf b) (.ref C)) (h2 : mro2 K C = true)
    (hs : PySem.W.findIn K (.ref C) (PySem.dunder op.info.2) = some (some (.ref f))) (hf : PySem.W.isFn K (.ref f) = true) (h3 : PySem.W.findIn K (.ref C) (dunderI op.info.2) = some none) (h4 : PySem.W.findIn K (.type "object") (dunderI op.info.2) = some none)
    (h : wpAny (model prog w) A (call (.ref f) [.ref x, b]) (PySem.W.CmpBack Q) E s) : wpAny (model prog w) A (inplaceOp op (.ref x) b) Q E s := by
  obtain ⟨cd, hcd, hm⟩ := PySem.W.any_some h2
  have hm := beq_iff_eq.mp hm
  unfold inplaceOp
  refine wpAny_holding ?_
  refine wpAny_bind (I.type.here (wpAny_bind ((fills_no X hcd hm h3 h4).here ?_)))
  rw [if_neg Bool.false_ne_true]
  refine wpAny_bind ?_
  unfold binaryOp1
  refine wpAny_bind (I.type.here (wpAny_bind (hb.here (wpAny_bind ((PySem.W.fills_K X hcd hm hs).here ?_)))))
  simp only [beq_self_eq_true, if_true]
  refine wpAny_bind (wpAny_pure ?_)
  simp only [Bool.and_false, Bool.false_eq_true, if_false, Bool.false_and]
  refine wpAny_bind (wpAny_pure ?_)
  simp only [Bool.false_eq_true, if_false]
  refine wpAny_bind (m := tryMethod (.ref x) _ b) ?_
  unfold tryMethod
  refine wpAny_bind (PySem.W.special_fn X I hs (beq_iff_eq.mp hf) (wpAny_mono h (fun v s' hv => ?_) fun _ _ e => e))
  cases v <;> first | exact hv.elim | exact wpAny_pure (wpAny_pure (wpAny_pure hv))
end
section
variable {X : Cx} {C g : Addr} {fd : FuncData} {ps : List Str} {sp : Sp} {CX : CXT} {n : Nat} {E : XK}
theorem ip_binI {op : Operator} (h2 : mro2 X.K C = true) (hs : PySem.W.findIn X.K (.ref C) (PySem.dunder op.info.2) = some (some (.ref g))) (hf : PySem.W.isFn X.K (.ref g) = true)
    (h3 : PySem.W.findIn X.K (.ref C) (dunderI op.info.2) = some none) (h4 : PySem.W.findIn X.K (.type "object") (dunderI op.info.2) = some none)
    (F : FnOk X.prog X.w X.K X.mg X.base CX n g fd ps sp) (hr : Room n X.A) (hb : Binds X.K fd ps []) (hx : Passes CX X E) : PIp X op (rBinI C sp E) := by
  intro pins s σ H x y v u Q I rx ry h
  obtain ⟨a, b, dx, dy, fs, gs, rfl, rfl, ha, hb', q⟩ := h
  cases (show v = Value.ref a from rx)
  cases (show u = Value.ref b from ry)
  obtain ⟨od, J⟩ := ins_at I ha
  obtain ⟨od', J'⟩ := ins_at I hb'
  refine inplace_bin I.kIn J J'.type h2 hs hf h3 h4 ?_
  refine wpAny_mono (run_fn (us := [.ref a, .ref b]) (vs := [.ref a, .ref b]) F hr hb .nil hx I (.cons rfl (.cons rfl .nil)) (by simpa using q)) (fun w s' z => ?_) fun _ _ x => x
  obtain ⟨z', H', I', rz, qz⟩ := z
  exact val_back rz ⟨z', H', I', rz, qz⟩
end
end Kv

set_option Elab.async false
set_option linter.all false
set_option maxRecDepth 100000
set_option maxHeartbeats 8000000
/-! The head's facts: what is looked at behind the top, for laws over a class with static methods. -/
namespace Cm
open PySem PySem.Spec PyProof.Rows L2 Kv
/-! ### the hook: facts, defs, and one more Bool -/
abbrev AlX : Type := He.AlD × Bool
def obsX (fa : List He.Fa) (fn : List He5.DefA) (ex : PySem.W.Frag → Bool) (K : PySem.W.Frag) : AlX := (He5.obsA fa fn K, ex K)
def SaysX (fa : List He.Fa) (fn : List He5.DefA) (ex : PySem.W.Frag → Bool) (K : PySem.W.Frag) : Prop := obsX fa fn ex K = (He5.valA fn, true)
def obsXG (fa : List He.Fa) (fn : List He5.DefA) (ex : PySem.W.Frag → Bool) (g : Addr → Option Obj) : AlX := obsX fa fn ex (He.frG g (He5.asA g 7))
def hookX (fa : List He.Fa) (fn : List He5.DefA) (ex : PySem.W.Frag → Bool) : PySem.W.Hook where
  α := AlX
  obs := fun s => obsXG fa fn ex s.heap.get?
  val := fun _ => (He5.valA fn, true)
  says := fun _ h => ∃ K : PySem.W.Frag, K.In h ∧ SaysX fa fn ex K
  of := fun _ _ e => ⟨_, He.frG_in, e⟩
  keeps := fun _ _ _ ⟨Kf, hIn, said⟩ kept => ⟨Kf, PySem.W.Frag.In.keeps hIn kept, said⟩
def obX (fa : List He.Fa) (fn : List He5.DefA) (ex : PySem.W.Frag → Bool) (s : PySem.W.SharedT) : AlX := obsXG fa fn ex (HandSHeadRun.getT s)
theorem obX_eq (fa : List He.Fa) (fn : List He5.DefA) (ex : PySem.W.Frag → Bool) (s : PySem.W.SharedT) : obX fa fn ex s = (hookX fa fn ex).obs s.abs := by
  have e : HandSHeadRun.getT s = s.abs.heap.get? := funext (HandSHeadRun.getT_eq s)
  unfold obX
  rw [e]
  rfl
section
variable {fa : List He.Fa} {fn : List He5.DefA} {ex : PySem.W.Frag → Bool} {K : PySem.W.Frag}
theorem SaysX.a (c : SaysX fa fn ex K) : He5.SaysA fa fn K := congrArg (fun z : AlX => z.1) c
theorem SaysX.x (c : SaysX fa fn ex K) : ex K = true := congrArg (fun z : AlX => z.2) c
theorem SaysX.fact (c : SaysX fa fn ex K) (i : Nat) {f : He.Fa} (h : fa[i]? = some f) : f.ok K = true := c.a.fact i h
theorem SaysX.def_ (c : SaysX fa fn ex K) (i : Nat) {at_ : PySem.W.Frag → Addr} {x qual : Str} {st : Stmt} (h : fn[i]? = some ⟨at_, x, qual, defArgs st, defBody st, defScope st, [], []⟩) : ∃ fd, Fun K x qual st (at_ K) fd := by
  obtain ⟨fd, F⟩ := c.a.def_ i h
  exact ⟨fd, He5.fun_of F⟩
end
/-- where a def stands -/
def atG (x : Str) : PySem.W.Frag → Addr := fun K => He.ga K x
def atM (c m : Str) : PySem.W.Frag → Addr := fun K => He.ma K (He.ga K c) m
def atS (c m : Str) : PySem.W.Frag → Addr := fun K => He5.wf K (He.ga K c) "staticmethod" m
def defd (at_ : PySem.W.Frag → Addr) (x qual : Str) (st : Stmt) : He5.DefA := ⟨at_, x, qual, defArgs st, defBody st, defScope st, [], []⟩
/-! ### what more is said of a class -/
def tyNames : List String := ["NoneType", "bool", "int", "str", "list", "dict", "tuple"]
def clsX (K : PySem.W.Frag) (C : Addr) : Bool :=
  PySem.W.selfFirst K C && (decide (PySem.W.kitOne K (.ref C) (.ref C) = some true) && (He.eqO (PySem.W.findIn K (.ref C) "__class__") (some (some (.builtin "object.__class__"))) &&
  (He.eqO (PySem.W.specialIn K (.builtin "object.__class__") "__get__") (some (some (.builtin "getset_descriptor.__get__"))) && (decide (PySem.W.takesIn K (.builtin "object.__class__") = some true) &&
  (decide (PySem.W.mroIn K C (.type "object") = some true) && (He.eqO (PySem.W.findIn K (.ref C) "__ne__") (some (some (.builtin "object.__ne__"))) &&
  ((tyNames.all fun t => decide (PySem.W.subIn K (.type t) (.ref C) = some false) && decide (PySem.W.kitOne K (.type t) (.ref C) = some false)) && mro2 K C)))))))
def statX (K : PySem.W.Frag) (C : Addr) (ms : List Str) : Bool :=
  decide (PySem.W.typeIn K (.ref C) = some (.type "type")) && (PySem.W.readsIn K C (.type "type") && (He.eqO (PySem.W.specialIn K (.ref C) "__getattribute__") (some (some (.builtin "type.__getattribute__"))) &&
  (ms.all fun m => He5.wrapB K C "staticmethod" "staticmethod.__get__" m)))
structure ClsF (K : PySem.W.Frag) (C : Addr) : Prop where
  sf : PySem.W.selfFirst K C = true
  kit : PySem.W.kitOne K (.ref C) (.ref C) = some true
  ha : PySem.W.findIn K (.ref C) "__class__" = some (some (.builtin "object.__class__"))
  hn : PySem.W.specialIn K (.builtin "object.__class__") "__get__" = some (some (.builtin "getset_descriptor.__get__"))
  ht : PySem.W.takesIn K (.builtin "object.__class__") = some true
  hm : PySem.W.mroIn K C (.type "object") = some true
  hne : PySem.W.findIn K (.ref C) "__ne__" = some (some (.builtin "object.__ne__"))
  no : ∀ t ∈ tyNames, PySem.W.subIn K (.type t) (.ref C) = some false ∧ PySem.W.kitOne K (.type t) (.ref C) = some false
  m2 : mro2 K C = true
theorem clsX_ok {K : PySem.W.Frag} {C : Addr} (h : clsX K C = true) : ClsF K C := by
  obtain ⟨h1, h⟩ := He.ba h
  obtain ⟨h2, h⟩ := He.ba h
  obtain ⟨h3, h⟩ := He.ba h
  obtain ⟨h4, h⟩ := He.ba h
  obtain ⟨h5, h⟩ := He.ba h
  obtain ⟨h6, h⟩ := He.ba h
  obtain ⟨h7, h⟩ := He.ba h
  obtain ⟨h8, h9⟩ := He.ba h
  refine ⟨h1, of_decide_eq_true h2, He.eqO_ok h3, He.eqO_ok h4, of_decide_eq_true h5, of_decide_eq_true h6, He.eqO_ok h7, fun t ht => ?_, h9⟩
  obtain ⟨a, b⟩ := He.ba (List.all_eq_true.mp h8 t ht)
  exact ⟨of_decide_eq_true a, of_decide_eq_true b⟩
theorem ClsF.ty {K : PySem.W.Frag} {C : Addr} (c : ClsF K C) (cl : Cls K C) {H : Hp} {a dx : Addr} {fs : List (Str × V)} (e : H a = some (.ins C dx fs)) : TyX K H (.ref a) (.ref C) := .base (.ins e cl c.ha c.hn c.ht c.hm)
theorem stat_ok {K : PySem.W.Frag} {C : Addr} {ms : List Str} (h : statX K C ms = true) {m : Str} (hm : m ∈ ms) (kp : PySem.W.keepIn K (.ref (He5.wf K C "staticmethod" m)) = true) :
    SMet K C (.type "type") m (He.ma K C m) (He5.wf K C "staticmethod" m) := by
  obtain ⟨h1, h⟩ := He.ba h
  obtain ⟨h2, h⟩ := He.ba h
  obtain ⟨h3, h4⟩ := He.ba h
  obtain ⟨w1, w2⟩ := He5.wrapB_ok (List.all_eq_true.mp h4 m hm)
  exact ⟨of_decide_eq_true h1, h2, He.eqO_ok h3, w1, w2, rfl, kp⟩
/-! ### a def, a method, a static method, by what is said -/
def Fd (K : PySem.W.Frag) (mg : Str → Option Value) (x : Str) (st : Stmt) (ps : List Str) : Prop := ∃ fd, Fun K x x st (He.ga K x) fd ∧ Binds K fd ps [] ∧ mg x = some (.ref (He.ga K x))
def Md (K : PySem.W.Frag) (C : Addr) (x qual : Str) (st : Stmt) (ps : List Str) : Prop := ∃ fd, Fun K x qual st (He.ma K C x) fd ∧ Binds K fd ps [] ∧ Meth K C x (He.ma K C x)
def Sd (K : PySem.W.Frag) (C : Addr) (x qual : Str) (st : Stmt) (ps : List Str) : Prop := ∃ fd, Fun K x qual st (He5.wf K C "staticmethod" x) fd ∧ Binds K fd ps [] ∧ SMet K C (.type "type") x (He.ma K C x) (He5.wf K C "staticmethod" x)
section
variable {P : Program} {w : World} {K : PySem.W.Frag} {mg : Str → Option Value} {base : Heap} {C : Addr} {x qual : Str} {st : Stmt} {ps : List Str} {k : Nat} {sp : Sp}
theorem Fd.dn (h : Fd K mg x st ps) (F : ∀ f fd, Fun K x x st f fd → Binds K fd ps [] → mg x = some (.ref f) → FnOk P w K mg base CX0 k f fd ps sp) : Dn P w K mg base x ps k sp := by
  obtain ⟨fd, f, b, m⟩ := h
  exact ⟨_, fd, F _ _ f b m, m, f.kp, b⟩
theorem Md.mn (h : Md K C x qual st ps) (F : ∀ f fd, Fun K x qual st f fd → FnOk P w K mg base CX0 k f fd ps sp) : Mn P w K mg base C x ps k sp := by
  obtain ⟨fd, f, b, m⟩ := h
  exact ⟨_, fd, m, F _ _ f, b⟩
theorem Md.on (h : Md K C x qual st ps) (F : ∀ f fd, Fun K x qual st f fd → FnOk P w K mg base CX0 k f fd ps sp) : On P w K mg base C x ps k sp := by
  obtain ⟨fd, f, b, m⟩ := h
  exact ⟨_, fd, m.at_, m.fn, F _ _ f, b⟩
theorem Sd.tn (h : Sd K C x qual st ps) (F : ∀ f fd, Fun K x qual st f fd → FnOk P w K mg base CX0 k f fd ps sp) : Tn P w K mg base C x ps k sp := by
  obtain ⟨fd, f, b, m⟩ := h
  exact ⟨_, _, _, fd, m, F _ _ f, b⟩
end
end Cm

set_option Elab.async false
set_option linter.all false
set_option maxRecDepth 100000
set_option maxHeartbeats 8000000
namespace Cm
open PySem PySem.Spec PyProof.Rows L2 Kv
def hfn : List He5.DefA := [defd (atG "is_name") "is_name" "is_name" s_is_name,
  defd (atG "ascending") "ascending" "ascending" s_ascending,
  defd (atG "merged") "merged" "merged" s_merged,
  defd (atG "mask_of") "mask_of" "mask_of" s_mask_of,
  defd (atM "Say" "__init__") "__init__" "Say.__init__" m_Say_init,
  defd (atS "Say" "test") "test" "Say.test" m_Say_test,
  defd (atS "Say" "yes") "yes" "Say.yes" m_Say_yes,
  defd (atS "Say" "no") "no" "Say.no" m_Say_no,
  defd (atM "Say" "tests") "tests" "Say.tests" m_Say_tests,
  defd (atM "Say" "holds") "holds" "Say.holds" m_Say_holds,
  defd (atM "Say" "given") "given" "Say.given" m_Say_given,
  defd (atM "Say" "some") "some" "Say.some" m_Say_some,
  defd (atM "Say" "over") "over" "Say.over" m_Say_over,
  defd (atM "Say" "__and__") "__and__" "Say.__and__" m_Say_and,
  defd (atM "Say" "__or__") "__or__" "Say.__or__" m_Say_or,
  defd (atM "Say" "__xor__") "__xor__" "Say.__xor__" m_Say_xor,
  defd (atM "Say" "__invert__") "__invert__" "Say.__invert__" m_Say_invert,
  defd (atM "Say" "__le__") "__le__" "Say.__le__" m_Say_le,
  defd (atM "Say" "__lt__") "__lt__" "Say.__lt__" m_Say_lt,
  defd (atM "Say" "__eq__") "__eq__" "Say.__eq__" m_Say_eq,
  defd (atG "everywhere") "everywhere" "everywhere" s_everywhere,
  defd (atG "without") "without" "without" s_without,
  defd (atG "settled") "settled" "settled" s_settled,
  defd (atG "makes_difference") "makes_difference" "makes_difference" s_makes_difference,
  defd (atG "table_over") "table_over" "table_over" s_table_over,
  defd (atG "_law_spring") "_law_spring" "_law_spring" s_l_spring,
  defd (atG "_law_draw") "_law_draw" "_law_draw" s_l_draw,
  defd (atG "_law_pick") "_law_pick" "_law_pick" s_l_pick,
  defd (atG "_law_mixed") "_law_mixed" "_law_mixed" s_l_mixed,
  defd (atG "_law_same") "_law_same" "_law_same" s_l_same,
  defd (atG "_law_names") "_law_names" "_law_names" s_l_names,
  defd (atG "_law_tree") "_law_tree" "_law_tree" s_l_tree,
  defd (atG "_law_holds") "_law_holds" "_law_holds" s_l_holds,
  defd (atG "_law_say") "_law_say" "_law_say" s_l_say,
  defd (atG "_law_choices") "_law_choices" "_law_choices" s_l_choices,
  defd (atG "_law_tests") "_law_tests" "_law_tests" s_l_tests,
  defd (atG "_law_told_right") "_law_told_right" "_law_told_right" s_l_told_right,
  defd (atG "law") "law" "law" s_law]
def hfa : List He.Fa := [.cls "Say", .noat "Say" "_names", .noat "Say" "_table", .mkr "Say", .glo "Say", .str "LETTERS" "abcdefghijklmnopqrstuvwxyz", .int "LONGEST" 8, .noat "Say" "__iand__", .noat "Say" "__ior__", .noat "Say" "__ixor__", .free "all", .free "any", .free "bool", .free "dict", .free "enumerate", .free "int", .free "isinstance", .free "len", .free "list", .free "range", .free "sorted", .free "str", .free "tuple", .free "zip", .glo "is_name", .glo "ascending", .glo "merged", .glo "mask_of", .meth "Say" "__init__", .meth "Say" "tests", .meth "Say" "holds", .meth "Say" "given", .meth "Say" "some", .meth "Say" "over", .meth "Say" "__and__", .meth "Say" "__or__", .meth "Say" "__xor__", .meth "Say" "__invert__", .meth "Say" "__le__", .meth "Say" "__lt__", .meth "Say" "__eq__", .glo "everywhere", .glo "without", .glo "settled", .glo "makes_difference", .glo "table_over", .glo "_law_spring", .glo "_law_draw", .glo "_law_pick", .glo "_law_mixed", .glo "_law_same", .glo "_law_names", .glo "_law_tree", .glo "_law_holds", .glo "_law_say", .glo "_law_choices", .glo "_law_tests", .glo "_law_told_right", .glo "law"]
def hEx (K : PySem.W.Frag) : Bool := clsX K (He.ga K "Say") && statX K (He.ga K "Say") ["test", "yes", "no"]
abbrev Says (K : PySem.W.Frag) : Prop := SaysX hfa hfn hEx K
abbrev hk : PySem.W.Hook := hookX hfa hfn hEx
abbrev ob : PySem.W.SharedT → AlX := obX hfa hfn hEx
abbrev RwH : PySem.W.OpenRow := PySem.W.OpenLaw.row PySem.Challenge.rw_deedmeanings_k02_says_told
abbrev lawAt : Nat := 32
def loose : List Str := ["_wall", "DeedError", "BadName", "BadTruth", "LETTERS", "LONGEST", "is_name", "ascending", "merged", "mask_of", "Say", "everywhere", "without", "settled", "makes_difference", "table_over", "_law_spring", "_law_draw", "_law_pick", "_law_mixed", "_law_same", "_law_names", "_law_tree", "_law_holds", "_law_say", "_law_choices", "_law_tests", "_law_told_right"]
section
variable {K : PySem.W.Frag} {h : Heap} {mg : Str → Option Value}
theorem D_is_name (X : K.In h) (G : h.Ns mainGlobals mg) (c : Says K) : Fd K mg "is_name" s_is_name ["thing"] := by
  obtain ⟨fd, F⟩ := SaysX.def_ c 0 rfl
  exact ⟨fd, F, F.binds (ps := ["thing"]) fun _ _ _ _ _ _ us hl => match us, hl with | [_], _ => rfl, He.glo_ok X G (SaysX.fact c 24 rfl)⟩
theorem D_ascending (X : K.In h) (G : h.Ns mainGlobals mg) (c : Says K) : Fd K mg "ascending" s_ascending ["names"] := by
  obtain ⟨fd, F⟩ := SaysX.def_ c 1 rfl
  exact ⟨fd, F, F.binds (ps := ["names"]) fun _ _ _ _ _ _ us hl => match us, hl with | [_], _ => rfl, He.glo_ok X G (SaysX.fact c 25 rfl)⟩
theorem D_merged (X : K.In h) (G : h.Ns mainGlobals mg) (c : Says K) : Fd K mg "merged" s_merged ["one", "two"] := by
  obtain ⟨fd, F⟩ := SaysX.def_ c 2 rfl
  exact ⟨fd, F, F.binds (ps := ["one", "two"]) fun _ _ _ _ _ _ us hl => match us, hl with | [_, _], _ => rfl, He.glo_ok X G (SaysX.fact c 26 rfl)⟩
theorem D_mask_of (X : K.In h) (G : h.Ns mainGlobals mg) (c : Says K) : Fd K mg "mask_of" s_mask_of ["numbers"] := by
  obtain ⟨fd, F⟩ := SaysX.def_ c 3 rfl
  exact ⟨fd, F, F.binds (ps := ["numbers"]) fun _ _ _ _ _ _ us hl => match us, hl with | [_], _ => rfl, He.glo_ok X G (SaysX.fact c 27 rfl)⟩
theorem M_init (c : Says K) : Md K (He.ga K "Say") "__init__" "Say.__init__" m_Say_init ["self", "names", "table"] := by
  obtain ⟨fd, F⟩ := SaysX.def_ c 4 rfl
  exact ⟨fd, F, F.binds (ps := ["self", "names", "table"]) fun _ _ _ _ _ _ us hl => match us, hl with | [_, _, _], _ => rfl, He.meth_ok (SaysX.fact c 28 rfl)⟩
theorem S_test (c : Says K) : Sd K (He.ga K "Say") "test" "Say.test" m_Say_test ["name"] := by
  obtain ⟨fd, F⟩ := SaysX.def_ c 5 rfl
  exact ⟨fd, F, F.binds (ps := ["name"]) fun _ _ _ _ _ _ us hl => match us, hl with | [_], _ => rfl, stat_ok (He.ba (SaysX.x c)).2 (by decide) F.kp⟩
theorem S_yes (c : Says K) : Sd K (He.ga K "Say") "yes" "Say.yes" m_Say_yes [] := by
  obtain ⟨fd, F⟩ := SaysX.def_ c 6 rfl
  exact ⟨fd, F, F.binds (ps := []) fun _ _ _ _ _ _ us hl => match us, hl with | [], _ => rfl, stat_ok (He.ba (SaysX.x c)).2 (by decide) F.kp⟩
theorem S_no (c : Says K) : Sd K (He.ga K "Say") "no" "Say.no" m_Say_no [] := by
  obtain ⟨fd, F⟩ := SaysX.def_ c 7 rfl
  exact ⟨fd, F, F.binds (ps := []) fun _ _ _ _ _ _ us hl => match us, hl with | [], _ => rfl, stat_ok (He.ba (SaysX.x c)).2 (by decide) F.kp⟩
theorem M_tests (c : Says K) : Md K (He.ga K "Say") "tests" "Say.tests" m_Say_tests ["self"] := by
  obtain ⟨fd, F⟩ := SaysX.def_ c 8 rfl
  exact ⟨fd, F, F.binds (ps := ["self"]) fun _ _ _ _ _ _ us hl => match us, hl with | [_], _ => rfl, He.meth_ok (SaysX.fact c 29 rfl)⟩
theorem M_holds (c : Says K) : Md K (He.ga K "Say") "holds" "Say.holds" m_Say_holds ["self", "true"] := by
  obtain ⟨fd, F⟩ := SaysX.def_ c 9 rfl
  exact ⟨fd, F, F.binds (ps := ["self", "true"]) fun _ _ _ _ _ _ us hl => match us, hl with | [_, _], _ => rfl, He.meth_ok (SaysX.fact c 30 rfl)⟩
theorem M_given (c : Says K) : Md K (He.ga K "Say") "given" "Say.given" m_Say_given ["self", "name", "truth"] := by
  obtain ⟨fd, F⟩ := SaysX.def_ c 10 rfl
  exact ⟨fd, F, F.binds (ps := ["self", "name", "truth"]) fun _ _ _ _ _ _ us hl => match us, hl with | [_, _, _], _ => rfl, He.meth_ok (SaysX.fact c 31 rfl)⟩
theorem M_some (c : Says K) : Md K (He.ga K "Say") "some" "Say.some" m_Say_some ["self", "name"] := by
  obtain ⟨fd, F⟩ := SaysX.def_ c 11 rfl
  exact ⟨fd, F, F.binds (ps := ["self", "name"]) fun _ _ _ _ _ _ us hl => match us, hl with | [_, _], _ => rfl, He.meth_ok (SaysX.fact c 32 rfl)⟩
theorem M_over (c : Says K) : Md K (He.ga K "Say") "over" "Say.over" m_Say_over ["self", "names"] := by
  obtain ⟨fd, F⟩ := SaysX.def_ c 12 rfl
  exact ⟨fd, F, F.binds (ps := ["self", "names"]) fun _ _ _ _ _ _ us hl => match us, hl with | [_, _], _ => rfl, He.meth_ok (SaysX.fact c 33 rfl)⟩
theorem M_and (c : Says K) : Md K (He.ga K "Say") "__and__" "Say.__and__" m_Say_and ["self", "other"] := by
  obtain ⟨fd, F⟩ := SaysX.def_ c 13 rfl
  exact ⟨fd, F, F.binds (ps := ["self", "other"]) fun _ _ _ _ _ _ us hl => match us, hl with | [_, _], _ => rfl, He.meth_ok (SaysX.fact c 34 rfl)⟩
theorem M_or (c : Says K) : Md K (He.ga K "Say") "__or__" "Say.__or__" m_Say_or ["self", "other"] := by
  obtain ⟨fd, F⟩ := SaysX.def_ c 14 rfl
  exact ⟨fd, F, F.binds (ps := ["self", "other"]) fun _ _ _ _ _ _ us hl => match us, hl with | [_, _], _ => rfl, He.meth_ok (SaysX.fact c 35 rfl)⟩
theorem M_xor (c : Says K) : Md K (He.ga K "Say") "__xor__" "Say.__xor__" m_Say_xor ["self", "other"] := by
  obtain ⟨fd, F⟩ := SaysX.def_ c 15 rfl
  exact ⟨fd, F, F.binds (ps := ["self", "other"]) fun _ _ _ _ _ _ us hl => match us, hl with | [_, _], _ => rfl, He.meth_ok (SaysX.fact c 36 rfl)⟩
theorem M_invert (c : Says K) : Md K (He.ga K "Say") "__invert__" "Say.__invert__" m_Say_invert ["self"] := by
  obtain ⟨fd, F⟩ := SaysX.def_ c 16 rfl
  exact ⟨fd, F, F.binds (ps := ["self"]) fun _ _ _ _ _ _ us hl => match us, hl with | [_], _ => rfl, He.meth_ok (SaysX.fact c 37 rfl)⟩
theorem M_le (c : Says K) : Md K (He.ga K "Say") "__le__" "Say.__le__" m_Say_le ["self", "other"] := by
  obtain ⟨fd, F⟩ := SaysX.def_ c 17 rfl
  exact ⟨fd, F, F.binds (ps := ["self", "other"]) fun _ _ _ _ _ _ us hl => match us, hl with | [_, _], _ => rfl, He.meth_ok (SaysX.fact c 38 rfl)⟩
theorem M_lt (c : Says K) : Md K (He.ga K "Say") "__lt__" "Say.__lt__" m_Say_lt ["self", "other"] := by
  obtain ⟨fd, F⟩ := SaysX.def_ c 18 rfl
  exact ⟨fd, F, F.binds (ps := ["self", "other"]) fun _ _ _ _ _ _ us hl => match us, hl with | [_, _], _ => rfl, He.meth_ok (SaysX.fact c 39 rfl)⟩
theorem M_eq (c : Says K) : Md K (He.ga K "Say") "__eq__" "Say.__eq__" m_Say_eq ["self", "other"] := by
  obtain ⟨fd, F⟩ := SaysX.def_ c 19 rfl
  exact ⟨fd, F, F.binds (ps := ["self", "other"]) fun _ _ _ _ _ _ us hl => match us, hl with | [_, _], _ => rfl, He.meth_ok (SaysX.fact c 40 rfl)⟩
theorem D_everywhere (X : K.In h) (G : h.Ns mainGlobals mg) (c : Says K) : Fd K mg "everywhere" s_everywhere ["count"] := by
  obtain ⟨fd, F⟩ := SaysX.def_ c 20 rfl
  exact ⟨fd, F, F.binds (ps := ["count"]) fun _ _ _ _ _ _ us hl => match us, hl with | [_], _ => rfl, He.glo_ok X G (SaysX.fact c 41 rfl)⟩
theorem D_without (X : K.In h) (G : h.Ns mainGlobals mg) (c : Says K) : Fd K mg "without" s_without ["count", "place"] := by
  obtain ⟨fd, F⟩ := SaysX.def_ c 21 rfl
  exact ⟨fd, F, F.binds (ps := ["count", "place"]) fun _ _ _ _ _ _ us hl => match us, hl with | [_, _], _ => rfl, He.glo_ok X G (SaysX.fact c 42 rfl)⟩
theorem D_settled (X : K.In h) (G : h.Ns mainGlobals mg) (c : Says K) : Fd K mg "settled" s_settled ["count", "table", "place", "truth"] := by
  obtain ⟨fd, F⟩ := SaysX.def_ c 22 rfl
  exact ⟨fd, F, F.binds (ps := ["count", "table", "place", "truth"]) fun _ _ _ _ _ _ us hl => match us, hl with | [_, _, _, _], _ => rfl, He.glo_ok X G (SaysX.fact c 43 rfl)⟩
theorem D_makes_difference (X : K.In h) (G : h.Ns mainGlobals mg) (c : Says K) : Fd K mg "makes_difference" s_makes_difference ["count", "table", "place"] := by
  obtain ⟨fd, F⟩ := SaysX.def_ c 23 rfl
  exact ⟨fd, F, F.binds (ps := ["count", "table", "place"]) fun _ _ _ _ _ _ us hl => match us, hl with | [_, _, _], _ => rfl, He.glo_ok X G (SaysX.fact c 44 rfl)⟩
theorem D_table_over (X : K.In h) (G : h.Ns mainGlobals mg) (c : Says K) : Fd K mg "table_over" s_table_over ["names", "table", "wanted"] := by
  obtain ⟨fd, F⟩ := SaysX.def_ c 24 rfl
  exact ⟨fd, F, F.binds (ps := ["names", "table", "wanted"]) fun _ _ _ _ _ _ us hl => match us, hl with | [_, _, _], _ => rfl, He.glo_ok X G (SaysX.fact c 45 rfl)⟩
theorem D_law_spring (X : K.In h) (G : h.Ns mainGlobals mg) (c : Says K) : Fd K mg "_law_spring" s_l_spring ["_law_script"] := by
  obtain ⟨fd, F⟩ := SaysX.def_ c 25 rfl
  exact ⟨fd, F, F.binds (ps := ["_law_script"]) fun _ _ _ _ _ _ us hl => match us, hl with | [_], _ => rfl, He.glo_ok X G (SaysX.fact c 46 rfl)⟩
theorem D_law_draw (X : K.In h) (G : h.Ns mainGlobals mg) (c : Says K) : Fd K mg "_law_draw" s_l_draw ["_law_spring_here", "_law_many"] := by
  obtain ⟨fd, F⟩ := SaysX.def_ c 26 rfl
  exact ⟨fd, F, F.binds (ps := ["_law_spring_here", "_law_many"]) fun _ _ _ _ _ _ us hl => match us, hl with | [_, _], _ => rfl, He.glo_ok X G (SaysX.fact c 47 rfl)⟩
theorem D_law_pick (X : K.In h) (G : h.Ns mainGlobals mg) (c : Says K) : Fd K mg "_law_pick" s_l_pick ["_law_spring_here", "_law_things"] := by
  obtain ⟨fd, F⟩ := SaysX.def_ c 27 rfl
  exact ⟨fd, F, F.binds (ps := ["_law_spring_here", "_law_things"]) fun _ _ _ _ _ _ us hl => match us, hl with | [_, _], _ => rfl, He.glo_ok X G (SaysX.fact c 48 rfl)⟩
theorem D_law_mixed (X : K.In h) (G : h.Ns mainGlobals mg) (c : Says K) : Fd K mg "_law_mixed" s_l_mixed ["_law_spring_here", "_law_things"] := by
  obtain ⟨fd, F⟩ := SaysX.def_ c 28 rfl
  exact ⟨fd, F, F.binds (ps := ["_law_spring_here", "_law_things"]) fun _ _ _ _ _ _ us hl => match us, hl with | [_, _], _ => rfl, He.glo_ok X G (SaysX.fact c 49 rfl)⟩
theorem D_law_same (X : K.In h) (G : h.Ns mainGlobals mg) (c : Says K) : Fd K mg "_law_same" s_l_same ["_law_found", "_law_due"] := by
  obtain ⟨fd, F⟩ := SaysX.def_ c 29 rfl
  exact ⟨fd, F, F.binds (ps := ["_law_found", "_law_due"]) fun _ _ _ _ _ _ us hl => match us, hl with | [_, _], _ => rfl, He.glo_ok X G (SaysX.fact c 50 rfl)⟩
theorem D_law_names (X : K.In h) (G : h.Ns mainGlobals mg) (c : Says K) : Fd K mg "_law_names" s_l_names ["_law_spring_here", "_law_many"] := by
  obtain ⟨fd, F⟩ := SaysX.def_ c 30 rfl
  exact ⟨fd, F, F.binds (ps := ["_law_spring_here", "_law_many"]) fun _ _ _ _ _ _ us hl => match us, hl with | [_, _], _ => rfl, He.glo_ok X G (SaysX.fact c 51 rfl)⟩
theorem D_law_tree (X : K.In h) (G : h.Ns mainGlobals mg) (c : Says K) : Fd K mg "_law_tree" s_l_tree ["_law_spring_here", "_law_names_here", "_law_depth"] := by
  obtain ⟨fd, F⟩ := SaysX.def_ c 31 rfl
  exact ⟨fd, F, F.binds (ps := ["_law_spring_here", "_law_names_here", "_law_depth"]) fun _ _ _ _ _ _ us hl => match us, hl with | [_, _, _], _ => rfl, He.glo_ok X G (SaysX.fact c 52 rfl)⟩
theorem D_law_holds (X : K.In h) (G : h.Ns mainGlobals mg) (c : Says K) : Fd K mg "_law_holds" s_l_holds ["_law_tree_here", "_law_true"] := by
  obtain ⟨fd, F⟩ := SaysX.def_ c 32 rfl
  exact ⟨fd, F, F.binds (ps := ["_law_tree_here", "_law_true"]) fun _ _ _ _ _ _ us hl => match us, hl with | [_, _], _ => rfl, He.glo_ok X G (SaysX.fact c 53 rfl)⟩
theorem D_law_say (X : K.In h) (G : h.Ns mainGlobals mg) (c : Says K) : Fd K mg "_law_say" s_l_say ["_law_tree_here"] := by
  obtain ⟨fd, F⟩ := SaysX.def_ c 33 rfl
  exact ⟨fd, F, F.binds (ps := ["_law_tree_here"]) fun _ _ _ _ _ _ us hl => match us, hl with | [_], _ => rfl, He.glo_ok X G (SaysX.fact c 54 rfl)⟩
theorem D_law_choices (X : K.In h) (G : h.Ns mainGlobals mg) (c : Says K) : Fd K mg "_law_choices" s_l_choices ["_law_names_here"] := by
  obtain ⟨fd, F⟩ := SaysX.def_ c 34 rfl
  exact ⟨fd, F, F.binds (ps := ["_law_names_here"]) fun _ _ _ _ _ _ us hl => match us, hl with | [_], _ => rfl, He.glo_ok X G (SaysX.fact c 55 rfl)⟩
theorem D_law_tests (X : K.In h) (G : h.Ns mainGlobals mg) (c : Says K) : Fd K mg "_law_tests" s_l_tests ["_law_names_here", "_law_told"] := by
  obtain ⟨fd, F⟩ := SaysX.def_ c 35 rfl
  exact ⟨fd, F, F.binds (ps := ["_law_names_here", "_law_told"]) fun _ _ _ _ _ _ us hl => match us, hl with | [_, _], _ => rfl, He.glo_ok X G (SaysX.fact c 56 rfl)⟩
theorem D_law_told_right (X : K.In h) (G : h.Ns mainGlobals mg) (c : Says K) : Fd K mg "_law_told_right" s_l_told_right ["_law_spring_here", "_law_say_here", "_law_told", "_law_names_here"] := by
  obtain ⟨fd, F⟩ := SaysX.def_ c 36 rfl
  exact ⟨fd, F, F.binds (ps := ["_law_spring_here", "_law_say_here", "_law_told", "_law_names_here"]) fun _ _ _ _ _ _ us hl => match us, hl with | [_, _, _, _], _ => rfl, He.glo_ok X G (SaysX.fact c 57 rfl)⟩
theorem D_law (X : K.In h) (G : h.Ns mainGlobals mg) (c : Says K) : Fd K mg "law" s_law ["_law_script"] := by
  obtain ⟨fd, F⟩ := SaysX.def_ c 37 rfl
  exact ⟨fd, F, F.binds (ps := ["_law_script"]) fun _ _ _ _ _ _ us hl => match us, hl with | [_], _ => rfl, He.glo_ok X G (SaysX.fact c 58 rfl)⟩
theorem N_all (X : K.In h) (G : h.Ns mainGlobals mg) (c : Says K) : mg "all" = none := He.free_ok X G (SaysX.fact c 10 rfl)
theorem N_any (X : K.In h) (G : h.Ns mainGlobals mg) (c : Says K) : mg "any" = none := He.free_ok X G (SaysX.fact c 11 rfl)
theorem N_bool (X : K.In h) (G : h.Ns mainGlobals mg) (c : Says K) : mg "bool" = none := He.free_ok X G (SaysX.fact c 12 rfl)
theorem N_dict (X : K.In h) (G : h.Ns mainGlobals mg) (c : Says K) : mg "dict" = none := He.free_ok X G (SaysX.fact c 13 rfl)
theorem N_enumerate (X : K.In h) (G : h.Ns mainGlobals mg) (c : Says K) : mg "enumerate" = none := He.free_ok X G (SaysX.fact c 14 rfl)
theorem N_int (X : K.In h) (G : h.Ns mainGlobals mg) (c : Says K) : mg "int" = none := He.free_ok X G (SaysX.fact c 15 rfl)
theorem N_isinstance (X : K.In h) (G : h.Ns mainGlobals mg) (c : Says K) : mg "isinstance" = none := He.free_ok X G (SaysX.fact c 16 rfl)
theorem N_len (X : K.In h) (G : h.Ns mainGlobals mg) (c : Says K) : mg "len" = none := He.free_ok X G (SaysX.fact c 17 rfl)
theorem N_list (X : K.In h) (G : h.Ns mainGlobals mg) (c : Says K) : mg "list" = none := He.free_ok X G (SaysX.fact c 18 rfl)
theorem N_range (X : K.In h) (G : h.Ns mainGlobals mg) (c : Says K) : mg "range" = none := He.free_ok X G (SaysX.fact c 19 rfl)
theorem N_sorted (X : K.In h) (G : h.Ns mainGlobals mg) (c : Says K) : mg "sorted" = none := He.free_ok X G (SaysX.fact c 20 rfl)
theorem N_str (X : K.In h) (G : h.Ns mainGlobals mg) (c : Says K) : mg "str" = none := He.free_ok X G (SaysX.fact c 21 rfl)
theorem N_tuple (X : K.In h) (G : h.Ns mainGlobals mg) (c : Says K) : mg "tuple" = none := He.free_ok X G (SaysX.fact c 22 rfl)
theorem N_zip (X : K.In h) (G : h.Ns mainGlobals mg) (c : Says K) : mg "zip" = none := He.free_ok X G (SaysX.fact c 23 rfl)
theorem cls_say (c : Says K) : Cls K (He.ga K "Say") := He.cls_ok (SaysX.fact c 0 rfl)
theorem no_names (c : Says K) : NoAttr K (He.ga K "Say") "_names" := He.noat_ok (SaysX.fact c 1 rfl)
theorem no_table (c : Says K) : NoAttr K (He.ga K "Say") "_table" := He.noat_ok (SaysX.fact c 2 rfl)
theorem no_iand (c : Says K) : NoAttr K (He.ga K "Say") "__iand__" := He.noat_ok (SaysX.fact c 7 rfl)
theorem no_ior (c : Says K) : NoAttr K (He.ga K "Say") "__ior__" := He.noat_ok (SaysX.fact c 8 rfl)
theorem no_ixor (c : Says K) : NoAttr K (He.ga K "Say") "__ixor__" := He.noat_ok (SaysX.fact c 9 rfl)
theorem mk_say (c : Says K) : Mk K (He.ga K "Say") (He.ma K (He.ga K "Say") "__init__") := He.mkr_ok (SaysX.fact c 3 rfl)
theorem glo_say (X : K.In h) (G : h.Ns mainGlobals mg) (c : Says K) : mg "Say" = some (.ref (He.ga K "Say")) := He.glo_ok X G (SaysX.fact c 4 rfl)
theorem str_letters (X : K.In h) (G : h.Ns mainGlobals mg) (c : Says K) : ∃ t, mg "LETTERS" = some (.str abc t) := He.str_ok X G (SaysX.fact c 5 rfl)
theorem int_longest (X : K.In h) (G : h.Ns mainGlobals mg) (c : Says K) : ∃ t, mg "LONGEST" = some (.int 8 t) := He.int_ok X G (SaysX.fact c 6 rfl)
theorem clsF_say (c : Says K) : ClsF K (He.ga K "Say") := clsX_ok (He.ba (SaysX.x c)).1
end
end Cm

set_option Elab.async false
set_option linter.all false
set_option maxRecDepth 1000000
set_option maxHeartbeats 0
namespace Cm
open PySem PySem.Spec PyProof.Rows L2
theorem run (w : World) : HandSHeadRun.RunEq RwH (PySem.W.view RwH.prog [lawAt]) hk ob 9000 loose w := by
  intro os
  kernel_rfl
end Cm

set_option Elab.async false
set_option linter.all false
set_option maxRecDepth 100000
set_option maxHeartbeats 8000000
namespace Kv
open PySem PySem.Spec PyProof.Rows L2
/-- a dict comprehension over a walk -/
theorem dc_it {J : It} {m : Nat} {Stay : Hp → Prop} {Give : Nat → Hp → V → Hp → Prop} (W0 : Walk J m Stay Give) {gt : TG} {test : TT} {key val : TE} {own : List Nat} {st : L2.St} {Ha : Hp} {Dd : Addr} {Fin : Hp → Prop} (Ind : Nat → Hp → Prop)
    (start : Ind 0 (upd Ha Dd (.dK []))) (stay : ∀ i Hb, i ≤ m → Ind i Hb → Stay Hb)
    (turn : ∀ i v Hb Hc, i < m → Ind i Hb → Give i Hb v Hc → gt v (wipe st own) Hc fun st2 Hd => wipe st2 own = wipe st own ∧ test st2 Hd fun c He =>
      if c = true then key st2 He fun kk Hf => val st2 Hf fun vv Hg => ∃ rows k0, kk = kV k0 ∧ Hg Dd = some (.dK rows) ∧ rows.length < sizeLine ∧ Ind (i + 1) (upd Hg Dd (.dK (putK rows k0 vv))) else Ind (i + 1) He)
    (last : ∀ Hb, Ind m Hb → Fin Hb) :
    ∃ W : Nat → Nat → Hp → Prop, (∃ r, W 0 r (upd Ha Dd (.dK []))) ∧ ∀ i r Hb, W i r Hb → (J.stop i Hb ∧ Fin Hb) ∨ (J.go i Hb ∧ ∃ Nx : Hp → Prop, (∀ Hc, Nx Hc → ∃ r', r' < r ∧ W (i + 1) r' Hc) ∧ ∀ v Hc, J.yld i Hb v Hc →
      gt v (wipe st own) Hc fun st2 Hd => wipe st2 own = wipe st own ∧ test st2 Hd fun c He =>
        if c = true then key st2 He fun kk Hf => val st2 Hf fun vv Hg => ∃ rows k0, kk = kV k0 ∧ Hg Dd = some (.dK rows) ∧ rows.length < sizeLine ∧ Nx (upd Hg Dd (.dK (putK rows k0 vv))) else Nx He) := by
  refine ⟨fun i r Hb => r + i = m ∧ Ind i Hb, ⟨m, Nat.add_zero m, start⟩, fun i r Hb ⟨e, ih⟩ => ?_⟩
  have here := stay i Hb (by omega) ih
  cases r with
  | zero =>
    have e : i = m := by omega
    subst e
    exact .inl ⟨W0.stops Hb here, last Hb ih⟩
  | succ r => exact .inr ⟨W0.goes i Hb (by omega) here, Ind (i + 1), fun Hc q => ⟨r, Nat.lt_succ_self r, by omega, q⟩, fun v Hc y => turn i v Hb Hc (by omega) ih (W0.yields i Hb v Hc (by omega) here y)⟩
end Kv
namespace Cm
open PySem PySem.Spec PyProof.Rows L2 Kv
/-! ### the table over other names -/
/-- the dict from names to their places, as far as the place i -/
def numTo (ns : List Str) : Nat → List (Key × V)
  | 0 => []
  | i + 1 => putK (numTo ns i) (Sum.inr (ns.getD i "")) (natV i)
theorem numTo_len (ns : List Str) : ∀ i, (numTo ns i).length ≤ i
  | 0 => Nat.le_refl 0
  | i + 1 => Nat.le_trans (length_putK _ _ _) (Nat.succ_le_succ (numTo_len ns i))
theorem getD_of {ns : List Str} {i : Nat} {n : Str} (e : ns[i]? = some n) : ns.getD i "" = n := by
  rw [List.getD_eq_getElem?_getD, e]
  rfl
theorem numTo_val {ns : List Str} (nd : ns.Nodup) (z : Str) : ∀ i, i ≤ ns.length → valV (numTo ns i) (Sum.inr z) = if ns.idxOf z < i then some (natV (ns.idxOf z)) else none
  | 0, _ => rfl
  | i + 1, hi => by
    have e : ns[i]? = some ns[i] := List.getElem?_eq_getElem hi
    have ih := numTo_val nd z i (Nat.le_of_succ_le hi)
    unfold numTo
    rw [valV_put, getD_of e, ih]
    by_cases q : z = ns[i]
    · have ix := Tab.idxOf_nodup nd e
      rw [← q] at ix
      rw [if_pos (congrArg Sum.inr q), ix, if_pos (Nat.lt_succ_self i)]
    · have ne : ns.idxOf z ≠ i := fun w => by
        have lt : ns.idxOf z < ns.length := by omega
        have g := List.getElem_idxOf lt
        simp only [w] at g
        exact q g.symm
      rw [if_neg (fun w => q (Sum.inr.inj w))]
      by_cases lt : ns.idxOf z < i
      · rw [if_pos lt, if_pos (Nat.lt_succ_of_lt lt)]
      · rw [if_neg lt, if_neg (fun w => lt (by omega))]
/-- the seats of names of ns in ws, as far as the place i -/
def seatTo (ns ws : List Str) (i : Nat) : List (Nat × Nat) := ((List.range i).filter fun p => decide (ws.getD p "" ∈ ns)).map fun p => (ns.idxOf (ws.getD p ""), p)
theorem seatTo_succ (ns ws : List Str) (i : Nat) : seatTo ns ws (i + 1) = seatTo ns ws i ++ (if ws.getD i "" ∈ ns then [(ns.idxOf (ws.getD i ""), i)] else []) := by
  unfold seatTo
  rw [List.range_succ, List.filter_append, List.map_append]
  by_cases h : ws.getD i "" ∈ ns
  · rw [if_pos h, List.filter_cons_of_pos (by simpa using h)]
    rfl
  · rw [if_neg h, List.filter_cons_of_neg (by simpa using h)]
    rfl
theorem seatTo_len (ns ws : List Str) (i : Nat) : (seatTo ns ws i).length ≤ i := by
  unfold seatTo
  rw [List.length_map]
  have h := List.length_filter_le (fun p => decide (ws.getD p "" ∈ ns)) (List.range i)
  rwa [List.length_range] at h
theorem seat_at {ns ws : List Str} {q : Nat × Nat} (h : q ∈ seatTo ns ws ws.length) : ∃ z, ws[q.2]? = some z ∧ z ∈ ns ∧ q.1 = ns.idxOf z := by
  obtain ⟨p, hp, rfl⟩ := List.mem_map.mp h
  obtain ⟨h1, h2⟩ := List.mem_filter.mp hp
  have lt := List.mem_range.mp h1
  have e : ws[p]? = some ws[p] := List.getElem?_eq_getElem lt
  have h3 := of_decide_eq_true h2
  rw [getD_of e] at h3
  exact ⟨ws[p], e, h3, by rw [getD_of e]⟩
theorem at_seat {ns ws : List Str} {p : Nat} {z : Str} (e : ws[p]? = some z) (h : z ∈ ns) : (ns.idxOf z, p) ∈ seatTo ns ws ws.length := by
  refine List.mem_map.mpr ⟨p, List.mem_filter.mpr ⟨List.mem_range.mpr (List.getElem?_eq_some_iff.mp e).1, ?_⟩, ?_⟩
  · rw [getD_of e]
    exact decide_eq_true h
  · rw [getD_of e]
theorem seat_narrow {ns ws : List Str} (nn : ns.Nodup) (nw : ws.Nodup) (x : Nat) : Tab.maskOf (((seatTo ns ws ws.length).filter fun q => x.testBit q.2).map Prod.fst) = Tab.narrow ns ws x := by
  apply Nat.eq_of_testBit_eq
  intro k
  unfold Tab.narrow
  rw [Tab.maskOf_bit, Tab.idx_bit]
  cases hk : ns[k]? with
  | none =>
    refine decide_eq_false fun m => ?_
    obtain ⟨q, hq, rfl⟩ := List.mem_map.mp m
    obtain ⟨z, _, hz, e⟩ := seat_at (List.mem_filter.mp hq).1
    have lt := List.idxOf_lt_length_of_mem hz
    rw [← e] at lt
    rw [List.getElem?_eq_getElem lt] at hk
    cases hk
  | some n =>
    have ix := Tab.idxOf_nodup nn hk
    have mem : n ∈ ns := List.mem_of_getElem? hk
    show _ = (decide (n ∈ ws) && x.testBit (ws.idxOf n))
    by_cases hw : n ∈ ws
    · have lt := List.idxOf_lt_length_of_mem hw
      have e : ws[ws.idxOf n]? = some n := by rw [List.getElem?_eq_getElem lt, List.getElem_idxOf lt]
      have iff : k ∈ ((seatTo ns ws ws.length).filter fun q => x.testBit q.2).map Prod.fst ↔ x.testBit (ws.idxOf n) = true := by
        constructor
        · intro m
          obtain ⟨q, hq, hq1⟩ := List.mem_map.mp m
          obtain ⟨hs, hb⟩ := List.mem_filter.mp hq
          obtain ⟨z, ez, hz, e1⟩ := seat_at hs
          have lz := List.idxOf_lt_length_of_mem hz
          have e2 : ns[ns.idxOf z]? = some z := by rw [List.getElem?_eq_getElem lz, List.getElem_idxOf lz]
          rw [← e1, hq1, hk] at e2
          have nz := Option.some.inj e2
          rw [← nz] at ez
          rw [Tab.idxOf_nodup nw ez]
          exact hb
        · intro hb
          exact List.mem_map.mpr ⟨(ns.idxOf n, ws.idxOf n), List.mem_filter.mpr ⟨at_seat e mem, hb⟩, ix⟩
      rw [decide_eq_true hw, Bool.true_and]
      cases hb : x.testBit (ws.idxOf n) with
      | true => exact decide_eq_true (iff.mpr hb)
      | false => exact decide_eq_false fun m => Bool.false_ne_true (hb.symm.trans (iff.mp m))
    · rw [decide_eq_false hw, Bool.false_and]
      refine decide_eq_false fun m => ?_
      obtain ⟨q, hq, hq1⟩ := List.mem_map.mp m
      obtain ⟨z, ez, hz, e1⟩ := seat_at (List.mem_filter.mp hq).1
      have lz := List.idxOf_lt_length_of_mem hz
      have e2 : ns[ns.idxOf z]? = some z := by rw [List.getElem?_eq_getElem lz, List.getElem_idxOf lz]
      rw [← e1, hq1, hk] at e2
      rw [← Option.some.inj e2] at ez
      exact hw (List.mem_of_getElem? ez)
theorem over_same {ns : List Str} {t : Nat} (nd : ns.Nodup) (lt : t < 2 ^ (2 ^ ns.length)) : Tab.over ns t ns = t :=
  Tab.table_ext nd (Tab.over_lt _ _ _) lt fun c => by
    rw [Tab.ev_over nd]
    exact Tab.ev_congr fun n hn => by simp [hn]
/-- pairs of numbers stand at addresses, one by one -/
def SeatsAt (H : Hp) (bs : List Addr) (qs : List (Nat × Nat)) : Prop := bs.length = qs.length ∧ ∀ (j : Nat) (b : Addr) (q : Nat × Nat), bs[j]? = some b → qs[j]? = some q → H b = some (.tup [natV q.1, natV q.2])
theorem SeatsAt.keep {H H' : Hp} {bs : List Addr} {qs : List (Nat × Nat)} (h : SeatsAt H bs qs) (s : ∀ b xs, H b = some (.tup xs) → H' b = some (.tup xs)) : SeatsAt H' bs qs := ⟨h.1, fun j b q e1 e2 => s _ _ (h.2 j b q e1 e2)⟩
theorem SeatsAt.snoc {H : Hp} {bs : List Addr} {qs : List (Nat × Nat)} {b : Addr} {q : Nat × Nat} (h : SeatsAt H bs qs) (e : H b = some (.tup [natV q.1, natV q.2])) : SeatsAt H (bs ++ [b]) (qs ++ [q]) := by
  refine ⟨by rw [List.length_append, List.length_append, h.1]; rfl, fun j c r e1 e2 => ?_⟩
  by_cases lt : j < bs.length
  · rw [List.getElem?_append_left lt] at e1
    rw [List.getElem?_append_left (by rw [← h.1]; exact lt)] at e2
    exact h.2 j c r e1 e2
  · rw [List.getElem?_append_right (by omega)] at e1
    rw [List.getElem?_append_right (by rw [← h.1]; omega), ← h.1] at e2
    cases z : j - bs.length with
    | zero =>
      rw [z] at e1 e2
      have a1 : b = c := by simpa using e1
      have a2 : q = r := by simpa using e2
      rw [← a1, ← a2]
      exact e
    | succ m =>
      rw [z] at e1
      simp at e1
theorem take_filter_succ {α : Type} {qs : List α} {f : α → Bool} {j : Nat} {q : α} (e : qs[j]? = some q) : (qs.take (j + 1)).filter f = (qs.take j).filter f ++ (if f q = true then [q] else []) := by
  have lt := (List.getElem?_eq_some_iff.mp e).1
  rw [List.take_succ_eq_append_getElem lt, List.filter_append]
  rw [List.getElem?_eq_getElem lt] at e
  rw [Option.some.inj e]
  by_cases h : f q = true
  · rw [if_pos h, List.filter_cons_of_pos h]
    rfl
  · rw [if_neg h, List.filter_cons_of_neg h]
    rfl
theorem bit_one (t n : Nat) : (t >>> n) &&& 1 = (t.testBit n).toNat := by
  rw [Nat.testBit_eq_decide_div_mod_eq, Nat.and_one_is_mod, Nat.shiftRight_eq_div_pow]
  rcases Nat.mod_two_eq_zero_or_one (t / 2 ^ n) with h | h <;> rw [h] <;> rfl
theorem bit_truth (x p : Nat) : ((((x >>> p) &&& 1 : Nat) : Int) != 0) = x.testBit p := by
  rw [bit_one]
  cases x.testBit p <;> rfl
end Cm

set_option Elab.async false
set_option linter.all false
set_option maxRecDepth 100000
set_option maxHeartbeats 8000000
namespace Cm
open PySem PySem.Spec PyProof.Rows L2 Kv
abbrev nmOver : List Str := ["names", "table", "wanted", "numbers", "places", "told", "index", "narrow", "place", "name", "mine"]
section
variable {P : Program} {w : World} {K : PySem.W.Frag} {mg : Str → Option Value} {base : Heap}
theorem scOver : FnScope nmOver ["names", "table", "wanted"] (defScope s_table_over) := ⟨rfl, rfl, rfl, by decide +kernel, rfl, by decide +kernel, by decide +kernel⟩
def tShift (i p : Nat) : TE := tOp (rNat CNat fun a b => a &&& b) (tOp (rNat CNat fun a b => a >>> b) (tVar i) (tVar p)) (tC (.int 1))
def tBit (K : PySem.W.Frag) (i p : Nat) : TT := fun σ H Q => tShift i p σ H fun x H' => ∃ k, TruV K x H' k ∧ Q k H'
theorem ok_over {f : Addr} {fd : FuncData} (M : Dn P w K mg base "mask_of" ["numbers"] 1 (spMask K)) (mE : mg "enumerate" = none) (mR : mg "range" = none) (mL : mg "len" = none) (F : Fun K "table_over" "table_over" s_table_over f fd) :
    FnOk P w K mg base CX0 2 f fd ["names", "table", "wanted"] (spOver K) := by
  obtain ⟨fM, fdM, GM, mM, kM, bM⟩ := M.ex
  refine F.ok scOver (fun vs H Q E h => ?_) (fun cdv A outer s H vs Q E hr h => ?_)
  · obtain ⟨a, b, t, ns, ws, rfl, _⟩ := h
    rfl
  · obtain ⟨a, b, t, ns, ws, rfl, hA, hB, nn, nw, sn, sw, lt, on, ow, k⟩ := h
    refine ⟨_, pss_cons (ps_if (pt_cmpR (op_eqD hr.units) (pv 0) (pv 2) (nomark _)) (pss_one (ps_ret (pv 1))) pss_nil)
      (pss_cons (ps_set (i := 3) scOver.nd rfl (Or.inr rfl) (pe_dc (own := [("place", 8), ("name", 9)]) (g := gTup K 2 (gCons (gName 8) (gCons (gName 9) gNil))) (tt := tYes) (tk := tVar 9) (tv := tVar 8) (by rfl) scOver.nd (pi_enumT (by rfl) mE (pa_cons (pv 0) pa_nil))
        (blkOk_by (own := [("place", 8), ("name", 9)]) (N := nmOver) (sc := defScope s_table_over) (by decide +kernel))
        (fun _ _ _ _ _ => pg_tup (by rfl) (pgs_cons (pg_name (i := 8) scOver.nd rfl (Or.inl rfl)) (pgs_cons (pg_name (i := 9) scOver.nd rfl (Or.inl rfl)) pgs_nil))) (fun _ _ _ _ _ => pts_nil) (fun _ _ _ _ _ => pv 9) (fun _ _ _ _ _ => pv 8)))
      (pss_cons (ps_setLc (i := 4) (own := [("place", 8), ("name", 9)]) (g := gTup K 2 (gCons (gName 8) (gCons (gName 9) gNil))) (tt := tB (tDIn (tVar 9) (tVar 3))) (te := tTup (tCons (tDGet (tVar 3) (tVar 9)) (tCons (tVar 8) tNil))) (by rfl) scOver.nd (by rfl) (by rfl) (sw_true rfl rfl rfl (by decide +kernel)) (pi_enumT (by rfl) mE (pa_cons (pv 2) pa_nil))
        (blkOk_by (own := [("place", 8), ("name", 9)]) (N := nmOver) (sc := defScope s_table_over) (by decide +kernel))
        (fun _ _ _ _ _ => pg_tup (by rfl) (pgs_cons (pg_name (i := 8) scOver.nd rfl (Or.inl rfl)) (pgs_cons (pg_name (i := 9) scOver.nd rfl (Or.inl rfl)) pgs_nil))) (fun _ _ _ _ _ => pts_one (pt_cmp (pc_din (hu_of hr) (pv 9) (pv 3))))
        (fun _ _ _ _ _ => pe_tup (pa_cons (pe_dget (hu_of hr) (pv 3) (pv 9) (fun _ _ => rfl)) (pa_cons (pv 8) pa_nil))))
      (pss_cons (ps_set (i := 5) scOver.nd rfl (Or.inl rfl) pe_int)
      (pss_cons (ps_for PassesOwn.never rfl (pi_range1 (by rfl) mR (pa_cons (pe_op n_shl pe_int (pe_callB call_len_seq (by rfl) mL PySem.boot_len (pa_cons (pv 2) pa_nil))) pa_nil)) (pg_name (i := 6) scOver.nd rfl (Or.inr rfl))
        (pss_cons (ps_set (i := 7) scOver.nd rfl (Or.inl rfl) (pe_call GM hr rfl mM kM bM .nil pass0 (pa_cons (pe_lc (own := [("mine", 10), ("place", 8)]) (g := gTup K 2 (gCons (gName 10) (gCons (gName 8) gNil))) (tt := tBit K 6 8) (te := tVar 10) (by rfl) scOver.nd (pi_list (pv 4))
            (blkOk_by (own := [("mine", 10), ("place", 8)]) (N := nmOver) (sc := defScope s_table_over) (by decide +kernel))
            (fun _ _ _ _ _ => pg_tup (by rfl) (pgs_cons (pg_name (i := 10) scOver.nd rfl (Or.inl rfl)) (pgs_cons (pg_name (i := 8) scOver.nd rfl (Or.inl rfl)) pgs_nil)))
            (fun _ _ _ _ _ => pts_one (pt_truth (pe_op n_and (pe_op n_shr (pv 6) (pv 8)) pe_int) (by intro _; rfl))) (fun _ _ _ _ _ => pv 10)) pa_nil)))
        (pss_one (ps_set (i := 5) scOver.nd rfl (Or.inl rfl) (pe_op n_or (pv 5) (pe_op n_shl (pe_op n_and (pe_op n_shr (pv 1) (pv 7)) pe_int) (pv 6)))))))
      (pss_one (ps_ret (pv 5))))))), ?_⟩
    have hl : (ns.map V.str).length = ns.length := List.length_map _
    have hw : (ws.map V.str).length = ws.length := List.length_map _
    refine ⟨_, rfl, _, rfl, .tuple (ns.map PyData.str), .tuple (ws.map PyData.str), .tup hA (dpStrs ns), .tup hB (dpStrs ws), shpStrs on, shpStrs ow, decide (ns = ws), ?_, ?_⟩
    · simp only [PyData.eqv, eqvStrs]
    by_cases same : ns = ws
    · subst same
      rw [decide_eq_true rfl]
      refine iteT ⟨_, rfl, ?_⟩
      have fin := k H (Same.refl H)
      rw [over_same nn lt] at fin
      exact fin
    rw [decide_eq_false same]
    refine iteF ?_
    -- numbers
    refine ⟨_, rfl, a, _, rfl, hA, fun N hN => ?_⟩
    refine dc_it walk_enumT (fun i H' => Same H H' ∧ H' N = some (.dK (numTo ns i))) ⟨same_step (Same.refl H) hN, upd_same⟩ (fun i H' _ z => sqT_same hA z.1) ?_ ?_
    · rintro i v H1 H2 li ⟨sH, hNi⟩ ⟨T, p1, p2, rfl, hT, rfl, e1, e2⟩
      cases e1
      replace e2 : (ns.map V.str)[i]? = some p2 := e2
      rw [List.getElem?_map] at e2
      obtain ⟨n, hn, rfl⟩ := Option.map_eq_some_iff.mp e2
      have nNT : N ≠ T := ne_of_none hNi hT
      have s2 : Same H (upd H1 T (.tup [.int (i : Nat), .str n])) := same_step sH hT
      have hN2 : upd H1 T (.tup [.int (i : Nat), .str n]) N = some (.dK (numTo ns i)) := by
        rw [upd_ne nNT]
        exact hNi
      have hT2 : upd H1 T (.tup [.int (i : Nat), .str n]) T = some (.tup [.int (i : Nat), .str n]) := upd_same
      generalize upd H1 T (.tup [.int (i : Nat), .str n]) = H2 at *
      refine ⟨T, _, rfl, SqT.of hT2, rfl, _, _, rfl, _, _, rfl, rfl, rfl, ?_⟩
      refine iteT (B := False) ?_
      rw [if_pos rfl]
      refine ⟨_, rfl, _, rfl, numTo ns i, Sum.inr n, rfl, hN2, ?_, same_over s2 hN, ?_⟩
      · have h1 := numTo_len ns i
        have h2 : 7 ≤ sizeLine := by decide
        rw [hl] at li
        omega
      · rw [upd_same]
        have e : numTo ns (i + 1) = putK (numTo ns i) (Sum.inr n) (natV i) := by
          rw [← getD_of hn]
          rfl
        rw [e]
    · rintro H1 ⟨s1, hN1⟩
      rw [hl] at hN1
      -- places
      refine ⟨_, rfl, b, _, rfl, sqT_same hB s1, fun D hD => ?_⟩
      refine lc_it walk_enumT (fun i H' => Same H1 H' ∧ ∃ bs : List Addr, H' D = some (.lst (bs.map V.ref)) ∧ SeatsAt H' bs (seatTo ns ws i)) ⟨same_step (Same.refl H1) hD, [], upd_same, rfl, fun j b q e _ => by simp at e⟩ (fun i H' _ z => sqT_same (sqT_same hB s1) z.1) ?_ ?_
      · rintro i v H2 H3 li ⟨sH, bs, hDi, sb⟩ ⟨T, p1, p2, rfl, hT, rfl, e1, e2⟩
        cases e1
        replace e2 : (ws.map V.str)[i]? = some p2 := e2
        rw [List.getElem?_map] at e2
        obtain ⟨n, hn, rfl⟩ := Option.map_eq_some_iff.mp e2
        rw [hw] at li
        have nDT : D ≠ T := ne_of_none hDi hT
        have s3 : Same H1 (upd H2 T (.tup [.int (i : Nat), .str n])) := same_step sH hT
        have s23 : Same H2 (upd H2 T (.tup [.int (i : Nat), .str n])) := same_step (Same.refl H2) hT
        have hD3 : upd H2 T (.tup [.int (i : Nat), .str n]) D = some (.lst (bs.map V.ref)) := by
          rw [upd_ne nDT]
          exact hDi
        have hT3 : upd H2 T (.tup [.int (i : Nat), .str n]) T = some (.tup [.int (i : Nat), .str n]) := upd_same
        generalize upd H2 T (.tup [.int (i : Nat), .str n]) = H3 at *
        have hN3 := s3 _ _ hN1
        refine ⟨T, _, rfl, SqT.of hT3, rfl, _, _, rfl, _, _, rfl, rfl, rfl, ?_⟩
        refine ⟨_, rfl, _, rfl, N, _, rfl, DGet.k (k := Sum.inr n) hN3, _, rfl, ?_⟩
        have val := numTo_val nn n ns.length (Nat.le_refl _)
        by_cases hm : n ∈ ns
        · have li2 := List.idxOf_lt_length_of_mem hm
          rw [if_pos li2] at val
          rw [val]
          refine iteT ⟨_, rfl, _, rfl, N, natV (ns.idxOf n), rfl, ?_, _, rfl, (by show 2 ≤ sizeLine; decide), fun q hq => ?_⟩
          · have g := DGet.k (k := Sum.inr n) hN3
            rw [val] at g
            exact g
          have nDq : D ≠ q := ne_of_none hD3 hq
          have s4 : Same H3 (upd H3 q (.tup [natV (ns.idxOf n), .int (i : Nat)])) := same_step (Same.refl H3) hq
          have hD4 : upd H3 q (.tup [natV (ns.idxOf n), .int (i : Nat)]) D = some (.lst (bs.map V.ref)) := by
            rw [upd_ne nDq]
            exact hD3
          have hq4 : upd H3 q (.tup [natV (ns.idxOf n), .int (i : Nat)]) q = some (.tup [natV (ns.idxOf n), .int (i : Nat)]) := upd_same
          generalize upd H3 q (.tup [natV (ns.idxOf n), .int (i : Nat)]) = H4 at *
          have tups : ∀ {H5 : Hp}, (∀ c o, H4 c = some o → c ≠ D → H5 c = some o) → ∀ c xs, H4 c = some (.tup xs) → H5 c = some (.tup xs) := fun {H5} h c xs e => h c _ e fun z => by
            rw [z, hD4] at e
            cases e
          have off : ∀ c o, H4 c = some o → c ≠ D → upd H4 D (.lst (bs.map V.ref ++ [V.ref q])) c = some o := fun c o e nc => by
            rw [upd_ne nc]
            exact e
          refine ⟨_, hD4, ?_, same_over (fun c o e => s4 c o (s3 c o e)) hD, bs ++ [q], ?_, ?_⟩
          · rw [List.length_map, sb.1]
            have h1 := seatTo_len ns ws i
            have h2 : 7 ≤ sizeLine := by decide
            omega
          · rw [upd_same, List.map_append]
            rfl
          · rw [seatTo_succ, getD_of hn, if_pos hm]
            exact (((sb.keep fun c xs e => s4 c _ (s23 c _ e)).snoc (q := (ns.idxOf n, i)) hq4).keep (tups off))
        · have nl : ¬ ns.idxOf n < ns.length := fun z => hm (List.idxOf_lt_length_iff.mp z)
          rw [if_neg nl] at val
          rw [val]
          refine iteF ⟨s3, bs, hD3, ?_⟩
          rw [seatTo_succ, getD_of hn, if_neg hm, List.append_nil]
          exact sb.keep fun c xs e => s23 c _ e
      · rintro H2 ⟨sH, bs, hD2, sb⟩
        rw [hw] at sb
        have s12 : Same H H2 := fun c o e => sH c o (s1 c o e)
        have hlen : bs.length ≤ 6 := by
          have h1 := seatTo_len ns ws ws.length
          rw [sb.1]
          omega
        refine ⟨_, rfl, b, _, rfl, .inr (sqT_same hB s12), 1, ws.length, rfl, by rw [hw], ⟨Nat.one_lt_two_pow (by decide), by omega⟩, ((1 <<< ws.length : Nat) : Int), rfl, ?_, ?_, ?_⟩
        · exact Int.le_trans (by decide) (Int.natCast_nonneg _)
        · have h1 : (1 <<< ws.length : Nat) ≤ 4096 := by
            rw [Nat.one_shiftLeft]
            exact pow12 (by omega)
          exact Int.lt_of_le_of_lt (Int.ofNat_le.mpr h1) (by decide)
        rw [Int.toNat_natCast]
        refine for_range (lo := 0) (n := 1 <<< ws.length) (fun i σ H' => Same H2 H' ∧ ∃ c1 c2, σ = [some (.ref a), some (natV t), some (.ref b), some (.ref N), some (.ref D), some (natV (Tab.overFrom ns t ws i)), c1, c2, none, none, none]) ⟨Same.refl H2, none, none, rfl⟩ ?_ ?_
        · rintro i σ H3 hi ⟨s3, c1, c2, rfl⟩
          have hD3 := s3 _ _ hD2
          have sb3 := sb.keep fun c xs e => s3 c _ e
          have ei : (V.int (0 + (i : Int))) = natV i := by rw [Int.zero_add]
          rw [ei]
          refine ⟨_, rfl, D, rfl, ⟨_, SqL.of hD3⟩, fun L hL => ?_⟩
          refine lc_list (K := K) (a := D) (xs := bs.map V.ref) (fun j H' => Same H3 H' ∧ H' L = some (.lst (((((seatTo ns ws ws.length).take j).filter fun q => i.testBit q.2).map Prod.fst).map natV))) ⟨same_step (Same.refl H3) hL, upd_same⟩ (fun j H' _ z => SqL.of (z.1 _ _ hD3)) ?_ ?_
          · rintro j x H4 hx ⟨s4, hL4⟩
            rw [List.getElem?_map] at hx
            obtain ⟨c, hc, rfl⟩ := Option.map_eq_some_iff.mp hx
            have lj := (List.getElem?_eq_some_iff.mp hc).1
            rw [sb.1] at lj
            obtain ⟨q, hq⟩ : ∃ q, (seatTo ns ws ws.length)[j]? = some q := ⟨_, List.getElem?_eq_getElem lj⟩
            have hcq := s4 _ _ (sb3.2 j c q hc hq)
            refine ⟨c, _, rfl, SqT.of hcq, rfl, _, _, rfl, _, _, rfl, rfl, rfl, ?_⟩
            refine ⟨_, rfl, _, rfl, i, q.2, rfl, rfl, trivial, _, 1, rfl, rfl, trivial, _, rfl, ?_⟩
            rw [bit_truth]
            rw [take_filter_succ hq]
            cases hb : i.testBit q.2 with
            | true =>
              refine iteT ⟨_, rfl, _, hL4, ?_, same_over s4 hL, ?_⟩
              · rw [List.length_map, List.length_map]
                have h1 := List.length_filter_le (fun q : Nat × Nat => i.testBit q.2) ((seatTo ns ws ws.length).take j)
                rw [List.length_take] at h1
                have h2 := seatTo_len ns ws ws.length
                have h3 : 7 ≤ sizeLine := by decide
                omega
              · rw [upd_same, if_pos rfl, List.map_append, List.map_append]
                rfl
            | false =>
              refine iteF ⟨s4, ?_⟩
              rw [if_neg Bool.false_ne_true, List.append_nil]
              exact hL4
          · rintro H4 ⟨s4, hL4⟩
            rw [List.length_map, sb.1, List.take_length] at hL4
            refine ⟨L, _, rfl, SqL.of hL4, fun m hm => ?_, ?_⟩
            · obtain ⟨q, hq, rfl⟩ := List.mem_map.mp hm
              obtain ⟨z, _, hz, e⟩ := seat_at (List.mem_filter.mp hq).1
              have := List.idxOf_lt_length_of_mem hz
              rw [e]
              omega
            rw [seat_narrow nn nw]
            refine ⟨_, rfl, _, rfl, _, rfl, t, Tab.narrow ns ws i, rfl, rfl, trivial, _, 1, rfl, rfl, trivial, _, rfl, _, i, rfl, rfl, ⟨?_, ?_⟩, _, _, rfl, rfl, trivial, ?_⟩
            · show ((t >>> Tab.narrow ns ws i) &&& 1) < _
              rw [bit_one]
              have h1 : (t.testBit (Tab.narrow ns ws i)).toNat ≤ 1 := by cases t.testBit (Tab.narrow ns ws i) <;> decide
              exact Nat.lt_of_le_of_lt h1 (Nat.one_lt_two_pow (by decide))
            · have h1 : (1 <<< ws.length : Nat) ≤ 4096 := by
                rw [Nat.one_shiftLeft]
                exact pow12 (by omega)
              omega
            refine ⟨fun c o e => s4 c o (s3 c o e), some (natV i), some (natV (Tab.narrow ns ws i)), ?_⟩
            have e : Tab.overFrom ns t ws (i + 1) = Tab.overFrom ns t ws i ||| (((t >>> Tab.narrow ns ws i) &&& 1) <<< i) := by
              rw [bit_one]
              rfl
            rw [e]
            rfl
        · rintro σ H3 ⟨s3, c1, c2, rfl⟩
          refine ⟨_, rfl, ?_⟩
          have fin := k H3 fun c o e => s3 c o (s12 c o e)
          have e : Tab.over ns t ws = Tab.overFrom ns t ws (1 <<< ws.length) := by
            rw [Nat.one_shiftLeft]
            rfl
          rw [e] at fin
          exact fin
end
end Cm

set_option Elab.async false
set_option linter.all false
set_option maxRecDepth 100000
set_option maxHeartbeats 8000000
/-! The program's says: what holds of all of it behind the head. -/
namespace Cm
open PySem PySem.Spec PyProof.Rows L2 Kv
section
variable {P : Program} {w : World} {K : PySem.W.Frag} {h : Heap} {mg : Str → Option Value} {base : Heap}
theorem up_to {f : Addr} {fd : FuncData} {ps : List Str} {j k : Nat} {sp : Sp} (F : FnOk P w K mg base CX0 j f fd ps sp) (h : j ≤ k := by decide) : FnOk P w K mg base CX0 k f fd ps sp := F.mono h
theorem dn_mask (X : K.In h) (G : h.Ns mainGlobals mg) (c : Says K) : Dn P w K mg base "mask_of" ["numbers"] 1 (spMask K) := (D_mask_of X G c).dn fun _ _ F _ _ => ok_mask F
theorem dn_over (X : K.In h) (G : h.Ns mainGlobals mg) (c : Says K) : Dn P w K mg base "table_over" ["names", "table", "wanted"] 4 (spOver K) := (D_table_over X G c).dn fun _ _ F _ _ => up_to (ok_over (dn_mask X G c) (N_enumerate X G c) (N_range X G c) (N_len X G c) F)
theorem dn_without (X : K.In h) (G : h.Ns mainGlobals mg) (c : Says K) : Dn P w K mg base "without" ["count", "place"] 2 (spWithout K) := by
  obtain ⟨fdM, FM, bM, mM⟩ := D_mask_of X G c
  exact (D_without X G c).dn fun _ _ F _ _ => ok_without (N_range X G c) mM FM bM F
theorem dn_settled (X : K.In h) (G : h.Ns mainGlobals mg) (c : Says K) : Dn P w K mg base "settled" ["count", "table", "place", "truth"] 3 (spSettled K) := (D_settled X G c).dn fun _ _ F _ _ => ok_settled (dn_without X G c) F
theorem dn_diff (X : K.In h) (G : h.Ns mainGlobals mg) (c : Says K) : Dn P w K mg base "makes_difference" ["count", "table", "place"] 4 (spDiff K) := (D_makes_difference X G c).dn fun _ _ F _ _ => ok_diff (dn_settled X G c) F
theorem dn_asc (X : K.In h) (G : h.Ns mainGlobals mg) (c : Says K) : Dn P w K mg base "ascending" ["names"] 1 (spAsc K) := (D_ascending X G c).dn fun _ _ F _ _ => ok_asc (N_tuple X G c) (N_sorted X G c) (N_str X G c) F
theorem dn_merged (X : K.In h) (G : h.Ns mainGlobals mg) (c : Says K) : Dn P w K mg base "merged" ["one", "two"] 2 (spMerged K) := (D_merged X G c).dn fun _ _ F _ _ => ok_merged (dn_asc X G c) (N_list X G c) F
theorem dn_isName (X : K.In h) (G : h.Ns mainGlobals mg) (c : Says K) : Dn P w K mg base "is_name" ["thing"] 1 (spIsName K) := (D_is_name X G c).dn fun _ _ F _ _ => ok_isName (N_isinstance X G c) (N_str X G c) (N_len X G c) (N_all X G c) (str_letters X G c) (int_longest X G c) F
theorem dn_every (X : K.In h) (G : h.Ns mainGlobals mg) (c : Says K) : Dn P w K mg base "everywhere" ["count"] 1 spEvery := (D_everywhere X G c).dn fun _ _ F _ _ => ok_every F
theorem sy_of (X : K.In h) (G : h.Ns mainGlobals mg) (c : Says K) : Sy P w K mg base (He.ga K "Say") where
  mgC := glo_say X G c
  cl := cls_say c
  n1 := no_names c
  n2 := no_table c
  ty := fun _ _ _ _ e => (clsF_say c).ty (cls_say c) e
  kit := (clsF_say c).kit
  made := by
    obtain ⟨fd, F, b, m⟩ := M_init c
    exact ⟨_, fd, mk_say c, ok_init (dn_diff X G c) (dn_over X G c) (N_tuple X G c) (N_enumerate X G c) (N_len X G c) (cls_say c) (no_names c) (no_table c) F, b⟩
  isi := N_isinstance X G c
  over := dn_over X G c
  every := dn_every X G c
  isName := dn_isName X G c
  maskOf := dn_mask X G c
  len := N_len X G c
  list := N_list X G c
  enum := N_enumerate X G c
  merged := dn_merged X G c
theorem mn_over (X : K.In h) (G : h.Ns mainGlobals mg) (c : Says K) : Mn P w K mg base (He.ga K "Say") "over" ["self", "names"] 5 (spOverM K (He.ga K "Say")) := (M_over c).mn fun _ _ F => ok_overM (sy_of X G c) F
theorem sz_of (X : K.In h) (G : h.Ns mainGlobals mg) (c : Says K) : Sz P w K mg base (He.ga K "Say") where
  mgC := glo_say X G c
  sf := (clsF_say c).sf
  test := (S_test c).tn fun _ _ F => ok_test (sy_of X G c) F
  yes := (S_yes c).tn fun _ _ F => ok_yes (sy_of X G c) F
  no := (S_no c).tn fun _ _ F => ok_no (sy_of X G c) F
  and := (M_and c).on fun _ _ F => ok_and (sy_of X G c) (mn_over X G c) F
  or := (M_or c).on fun _ _ F => ok_or (sy_of X G c) (mn_over X G c) F
  xor := (M_xor c).on fun _ _ F => ok_xor (sy_of X G c) (mn_over X G c) F
  inv := (M_invert c).on fun _ _ F => ok_inv (sy_of X G c) F
theorem on_eq (X : K.In h) (G : h.Ns mainGlobals mg) (c : Says K) : On P w K mg base (He.ga K "Say") "__eq__" ["self", "other"] 1 (spEq K (He.ga K "Say")) := (M_eq c).on fun _ _ F => ok_eq (sy_of X G c) F
/-! ### the law's own -/
theorem dn_spring (X : K.In h) (G : h.Ns mainGlobals mg) (c : Says K) : Dn P w K mg base "_law_spring" ["_law_script"] 1 (spSpring K) := (D_law_spring X G c).dn fun _ _ F _ _ => ok_spring F (N_list X G c)
theorem dn_draw (X : K.In h) (G : h.Ns mainGlobals mg) (c : Says K) : Dn P w K mg base "_law_draw" ["_law_spring_here", "_law_many"] 1 spDraw := (D_law_draw X G c).dn fun _ _ F _ _ => ok_draw F (N_int X G c)
theorem dn_pick (X : K.In h) (G : h.Ns mainGlobals mg) (c : Says K) : Dn P w K mg base "_law_pick" ["_law_spring_here", "_law_things"] 2 (spPick K) := by
  obtain ⟨fdD, FD, bD, mD⟩ := D_law_draw X G c
  exact (D_law_pick X G c).dn fun _ _ F _ _ => ok_pick (N_int X G c) (N_len X G c) F FD bD mD
theorem dn_names (X : K.In h) (G : h.Ns mainGlobals mg) (c : Says K) : Dn P w K mg base "_law_names" ["_law_spring_here", "_law_many"] 2 (spNames K) := (D_law_names X G c).dn fun _ _ F _ _ => ok_names (dn_draw X G c) (N_range X G c) (N_len X G c) F
end
end Cm

set_option Elab.async false
set_option linter.all false
set_option maxRecDepth 100000
set_option maxHeartbeats 8000000
namespace Cm
open PySem PySem.Spec PyProof.Rows L2 Kv
def ifBody : Stmt → List Stmt
  | .If _ b _ _ => b
  | _ => []
def cost (d : Nat) : Nat := 3 * 2 ^ d
theorem cost_succ (d : Nat) : cost (d + 1) = 2 * cost d := by
  unfold cost
  rw [Nat.pow_succ]
  omega
theorem cost_pos (d : Nat) : 3 ≤ cost d := by
  unfold cost
  have : 0 < 2 ^ d := Nat.pow_pos (by decide)
  omega
/-- a drawn tree no deeper than d -/
def spTree (K : PySem.W.Frag) (d : Nat) : Sp := fun vs H Q _ => ∃ (p l t : Addr) (n : Nat) (ns : List Str), vs = [.ref p, .ref t, natV d] ∧ Spr H p l n ∧ n + cost d ≤ 1000000 ∧ H t = some (.lst (ns.map V.str)) ∧ t ≠ p ∧ t ≠ l ∧ (∀ z ∈ ns, isName z = true) ∧ ns.length ≤ 14 ∧
  ∀ (v : V) (tr : Tr) (n' : Nat) (H' : Hp), n' + 1 ≤ n + cost d → Spr H' p l n' → TreeAt H' v tr → tr.depth ≤ d → (∀ z ∈ tr.names, z ∈ ns) → Same2 p l H H' → Q v H'
section
variable {P : Program} {w : World} {K : PySem.W.Frag} {mg : Str → Option Value} {base : Heap}
theorem scTree : FnScope ["_law_spring_here", "_law_names_here", "_law_depth", "_law_way", "_law_ends", "_law_name", "_law_parts", "_law_k"] ["_law_spring_here", "_law_names_here", "_law_depth"] (defScope s_l_tree) := ⟨rfl, rfl, rfl, by decide +kernel, rfl, by decide +kernel, by decide +kernel⟩
theorem tree_step {f : Addr} {fd : FuncData} (d : Nat) (D : Dn P w K mg base "_law_draw" ["_law_spring_here", "_law_many"] 1 spDraw) (Pk : Dn P w K mg base "_law_pick" ["_law_spring_here", "_law_things"] 2 (spPick K)) (mR : mg "range" = none)
    (F : Fun K "_law_tree" "_law_tree" s_l_tree f fd) (mF : mg "_law_tree" = some (.ref f)) (bF : Binds K fd ["_law_spring_here", "_law_names_here", "_law_depth"] [])
    (G : FnOk P w K mg base CX0 (d + 2) f fd ["_law_spring_here", "_law_names_here", "_law_depth"] (prev (spTree K) d)) : FnOk P w K mg base CX0 (d + 3) f fd ["_law_spring_here", "_law_names_here", "_law_depth"] (spTree K d) := by
  obtain ⟨fD, fdD, GD, mD, kD, bD⟩ := D.ex
  obtain ⟨fP, fdP, GP, mP, kP, bP⟩ := Pk.ex
  refine F.ok scTree (fun vs H Q E h => ?_) (fun cdv A outer s H vs Q E hr h => ?_)
  · obtain ⟨p, l, t, n, ns, rfl, _⟩ := h
    rfl
  · obtain ⟨p, l, t, n, ns, rfl, S, hn, ht, tp, tl, ok, h14, k⟩ := h
    have h2 : Room 2 (A.deeper (envOfC "_law_tree" (defScope s_l_tree) s.heap.objs.size f cdv)) := hr.mono (by omega)
    have leaf : ∃ T, PSs (cxOf CX0 P w K mg base ["_law_spring_here", "_law_names_here", "_law_depth", "_law_way", "_law_ends", "_law_name", "_law_parts", "_law_k"] "_law_tree" (defScope s_l_tree) f cdv A outer s H E).nox (ifBody ((defBody s_l_tree).getD 1 (.Pass ⟨0, 0, 0, 0⟩))) T ∧
        ∀ (Dn : Ends) (way : V) (H1 : Hp), Dn.rt = Q → Spr H1 p l (n + 1) → Same2 p l H H1 → T Dn [some (.ref p), some (.ref t), some (natV d), some way, none, none, none, none] H1 := by
      refine ⟨_, pss_cons (ps_set (i := 4) scTree.nd rfl (Or.inl rfl) (pe_op op_cat (pe_lst (pa_cons (pe_tup (pa_cons pe_str pa_nil)) (pa_cons (pe_tup (pa_cons pe_str pa_nil)) pa_nil)))
          (pe_op op_rep (pe_lc (own := [("_law_name", 5)]) (g := gName 5) (tt := tYes) (te := tTup (tCons (tC (.str "test")) (tCons (tVar 5) tNil))) (by rfl) scTree.nd (pi_list (pv 1))
            (blkOk_by (own := [("_law_name", 5)]) (N := ["_law_spring_here", "_law_names_here", "_law_depth", "_law_way", "_law_ends", "_law_name", "_law_parts", "_law_k"]) (sc := defScope s_l_tree) (by decide +kernel))
            (fun _ _ _ _ _ => pg_name (i := 5) scTree.nd rfl (Or.inl rfl)) (fun _ _ _ _ _ => pts_nil) (fun _ _ _ _ _ => pe_tup (pa_cons pe_str (pa_cons (pv 5) pa_nil)))) pe_int)))
        (pss_one (ps_ret (pe_call GP h2 (by rfl) mP kP bP .nil pass0 (pa_cons (pv 0) (pa_cons (pv 4) pa_nil))))), ?_⟩
      rintro Dn way H1 rfl S1 s1
      refine ⟨(by show 1 ≤ sizeLine; decide), fun y hy => ⟨(by show 1 ≤ sizeLine; decide), fun z hz => ⟨(by show 2 ≤ sizeLine; decide), fun L hL => ?_⟩⟩⟩
      have s2 : Same H1 (upd (upd (upd H1 y (.tup [.str "yes"])) z (.tup [.str "no"])) L (.lst [.ref y, .ref z])) := same_step (same_step (same_step (Same.refl H1) hy) hz) hL
      have nyz : y ≠ z := fun q => by
        rw [q, upd_same] at hz
        cases hz
      have nyL : y ≠ L := fun q => by
        rw [← q, upd_ne nyz, upd_same] at hL
        cases hL
      have nzL : z ≠ L := fun q => by
        rw [← q, upd_same] at hL
        cases hL
      have y2 : upd (upd (upd H1 y (.tup [.str "yes"])) z (.tup [.str "no"])) L (.lst [.ref y, .ref z]) y = some (.tup [.str "yes"]) := by rw [upd_ne nyL, upd_ne nyz, upd_same]
      have z2 : upd (upd (upd H1 y (.tup [.str "yes"])) z (.tup [.str "no"])) L (.lst [.ref y, .ref z]) z = some (.tup [.str "no"]) := by rw [upd_ne nzL, upd_same]
      have L2' : upd (upd (upd H1 y (.tup [.str "yes"])) z (.tup [.str "no"])) L (.lst [.ref y, .ref z]) L = some (.lst [.ref y, .ref z]) := upd_same
      generalize upd (upd (upd H1 y (.tup [.str "yes"])) z (.tup [.str "no"])) L (.lst [.ref y, .ref z]) = H2 at *
      have ht2 : H2 t = some (.lst (ns.map V.str)) := s2 _ _ (s1 _ _ ht tp tl)
      refine ⟨_, rfl, t, rfl, ⟨_, SqL.of ht2⟩, fun M hM => ?_⟩
      refine lc_list (K := K) (a := t) (xs := ns.map V.str) (fun i H' => Same H2 H' ∧ ∃ ts : List V, H' M = some (.lst ts) ∧ ts.length = i ∧ ∀ v ∈ ts, ∃ x, x ∈ ns ∧ TreeAt H' v (.test x)) ⟨same_step (Same.refl H2) hM, [], upd_same, rfl, fun v hv => by cases hv⟩ (fun i H' _ z => SqL.of (z.1 _ _ ht2)) ?_ ?_
      · rintro i x H3 hx ⟨sH, ts, hM3, lt, all⟩
        have hi := (List.getElem?_eq_some_iff.mp hx).1
        rw [List.length_map] at hi
        rw [List.getElem?_map] at hx
        obtain ⟨m, hm, rfl⟩ := Option.map_eq_some_iff.mp hx
        refine ⟨rfl, ?_⟩
        refine iteT (B := False) ?_
        rw [if_pos rfl]
        refine ⟨_, rfl, (by show 2 ≤ sizeLine; decide), fun q hq => ?_⟩
        have nMq : M ≠ q := ne_of_none hM3 hq
        have hM4 : upd H3 q (.tup [.str "test", .str m]) M = some (.lst ts) := by rw [upd_ne nMq]; exact hM3
        have s4 : Same H3 (upd H3 q (.tup [.str "test", .str m])) := same_step (Same.refl H3) hq
        have hq4 : upd H3 q (.tup [.str "test", .str m]) q = some (.tup [.str "test", .str m]) := upd_same
        generalize upd H3 q (.tup [.str "test", .str m]) = H4 at *
        have sx : ∀ {v : V} {tr : Tr}, TreeAt H4 v tr → TreeAt (upd H4 M (.lst (ts ++ [.ref q]))) v tr := fun {v tr} h => by
          refine TreeAt.same2 (p := M) (l := M) (fun xs e => ?_) (fun xs e => ?_) Same2.updp h
          · rw [hM4] at e
            cases e
          · rw [hM4] at e
            cases e
        refine ⟨ts, hM4, ?_, same_over (fun b o e => s4 b o (sH b o e)) hM, ts ++ [.ref q], upd_same, by rw [List.length_append, lt]; rfl, fun v hv => ?_⟩
        · have : 65 ≤ sizeLine := by decide
          omega
        · rcases List.mem_append.mp hv with e | e
          · obtain ⟨x, hx1, hx2⟩ := all v e
            exact ⟨x, hx1, sx (hx2.same s4)⟩
          · rw [List.mem_singleton.mp e]
            exact ⟨m, List.mem_of_getElem? hm, sx (.test hq4)⟩
      · rintro H3 ⟨sH, ts, hM3, lt, all⟩
        rw [List.length_map] at lt
        have L3 := sH _ _ L2'
        have e3 : Int.toNat 3 = 3 := rfl
        refine ⟨M, 3, ts, rfl, rfl, hM3, by decide, by decide, ?_, fun R hR => ?_⟩
        · rw [e3]
          have : 65 ≤ sizeLine := by decide
          omega
        have nLR : L ≠ R := ne_of_none L3 hR
        have L4 : upd H3 R (.lst (List.replicate (Int.toNat 3) ts).flatten) L = some (.lst [.ref y, .ref z]) := by rw [upd_ne nLR]; exact L3
        have s4 : Same H3 (upd H3 R (.lst (List.replicate (Int.toNat 3) ts).flatten)) := same_step (Same.refl H3) hR
        have R4 : upd H3 R (.lst (List.replicate (Int.toNat 3) ts).flatten) R = some (.lst (List.replicate (Int.toNat 3) ts).flatten) := upd_same
        generalize upd H3 R (.lst (List.replicate (Int.toNat 3) ts).flatten) = H4 at *
        have len : (List.replicate (Int.toNat 3) ts).flatten.length = 3 * ts.length := by
          rw [e3]
          simp [List.replicate]
          omega
        refine ⟨L, R, _, _, rfl, rfl, L4, R4, ?_, fun B hB => ?_⟩
        · rw [len]
          have : 65 ≤ sizeLine := by decide
          show 2 + _ ≤ _
          omega
        have s5 : Same H1 (upd H4 B (.lst ([.ref y, .ref z] ++ (List.replicate (Int.toNat 3) ts).flatten))) := same_step (fun b o e => s4 b o (sH b o (s2 b o e))) hB
        have s5' : Same H3 (upd H4 B (.lst ([.ref y, .ref z] ++ (List.replicate (Int.toNat 3) ts).flatten))) := same_step s4 hB
        have S5 := S1.sameS s5
        have s14 : Same H1 H4 := fun b o e => s4 b o (sH b o (s2 b o e))
        have bS := Spr.apart S1 (s14.free hB)
        refine ⟨_, rfl, _, rfl, p, l, B, n + 1, [.ref y, .ref z] ++ (List.replicate (Int.toNat 3) ts).flatten, rfl, S5, ?_, upd_same, by simp, ?_, bS.1, bS.2, fun j v H6 hj S6 s6 => ?_⟩
        · have := cost_pos d
          omega
        · rw [List.length_append, len]
          show 2 + _ < _
          omega
        have hv : v ∈ [V.ref y, .ref z] ++ (List.replicate (Int.toNat 3) ts).flatten := List.mem_of_getElem? hj
        have tr : ∃ tr : Tr, TreeAt (upd H4 B (.lst ([.ref y, .ref z] ++ (List.replicate (Int.toNat 3) ts).flatten))) v tr ∧ tr.depth = 0 ∧ ∀ x ∈ tr.names, x ∈ ns := by
          rcases List.mem_append.mp hv with e | e
          · rcases List.mem_cons.mp e with e | e
            · rw [e]
              exact ⟨.yes, .yes (s5' _ _ (sH _ _ y2)), rfl, fun x hx => by cases hx⟩
            · rw [List.mem_singleton.mp e]
              exact ⟨.no, .no (s5' _ _ (sH _ _ z2)), rfl, fun x hx => by cases hx⟩
          · obtain ⟨us, h1, h3⟩ := List.mem_flatten.mp e
            rw [(List.mem_replicate.mp h1).2] at h3
            obtain ⟨x, hx1, hx2⟩ := all v h3
            exact ⟨.test x, hx2.same s5', rfl, fun x' hx' => by rw [List.mem_singleton.mp hx']; exact hx1⟩
        obtain ⟨tr, h1, h3, h4⟩ := tr
        obtain ⟨_, _, _, _, p5, l5, _⟩ := S5
        refine k v tr (n + 1 + 1) H6 ?_ S6 (h1.same2 (fun xs e => by rw [p5] at e; cases e) (fun xs e => by rw [l5] at e; cases e) s6) (by omega) h4 ((s1.trans (Same2.of s5)).trans s6)
        have := cost_pos d
        omega
    obtain ⟨T, hT, leaf⟩ := leaf
    refine ⟨_, pss_cons (ps_set (i := 3) scTree.nd rfl (Or.inl rfl) (pe_call GD (h2.mono (by decide)) (by rfl) mD kD bD .nil pass0 (pa_cons (pv 0) (pa_cons pe_int pa_nil))))
      (pss_cons (ps_if (PW.pt (pw_or (pt_cmpR op_eq (pv 2) pe_int (nomark _)) (pw_or (pt_cmpR (op_eqD hr.units) (pv 1) (pe_lst pa_nil) (nomark _)) (pw_or1 (pt_cmpR op_lt (pv 3) pe_int (nomark _))))))
        hT pss_nil)
      (pss_cons (ps_if (pt_cmpR op_lt (pv 3) pe_int (nomark _)) (pss_one (ps_ret (pe_tup (pa_cons pe_str (pa_cons (pe_call G hr (by rfl) mF F.kp bF .nil pass0 (pa_cons (pv 0) (pa_cons (pv 1) (pa_cons (pe_op op_sub (pv 2) pe_int) pa_nil)))) pa_nil))))) pss_nil)
      (pss_cons (ps_setLc (i := 6) (own := [("_law_k", 7)]) (g := gName 7) (tt := tYes) (te := tCall (prev (spTree K) d) [] E0 (tCons (tVar 0) (tCons (tVar 1) (tCons (tOp (rI0 fun i j => .int (i - j)) (tVar 2) (tC (.int 1))) tNil)))) (by rfl) scTree.nd rfl rfl (sw_true rfl rfl rfl (by decide +kernel)) (pi_range1 (by rfl) mR (pa_cons pe_int pa_nil))
          (blkOk_by (own := [("_law_k", 7)]) (N := ["_law_spring_here", "_law_names_here", "_law_depth", "_law_way", "_law_ends", "_law_name", "_law_parts", "_law_k"]) (sc := defScope s_l_tree) (by decide +kernel))
          (fun _ _ _ _ _ => pg_name (i := 7) scTree.nd rfl (Or.inl rfl)) (fun _ _ _ _ _ => pts_nil)
          (fun _ _ _ _ _ => pe_call G hr (by rfl) mF F.kp bF .nil pass0 (pa_cons (pv 0) (pa_cons (pv 1) (pa_cons (pe_op op_sub (pv 2) pe_int) pa_nil)))))
      (pss_one (ps_ret (pe_tup (pa_cons (pe_ix ix_list (pe_lst (pa_cons pe_str (pa_cons pe_str (pa_cons pe_str pa_nil)))) (pe_op op_mod (pv 3) pe_int) (fun _ _ => rfl)) (pa_cons (pe_ix ix_list (pv 6) pe_int (fun _ _ => rfl)) (pa_cons (pe_ix ix_list (pv 6) pe_int (fun _ _ => rfl)) pa_nil))))))))), ?_⟩
    refine ⟨_, rfl, p, l, n, 12, rfl, S, by omega, by decide, by decide, fun way H1 w0 w1 S1 s1 => ?_⟩
    have ht1 := s1 t _ ht tp tl
    cases d with
    | zero =>
      refine ⟨_, rfl, rfl, true, by decide +kernel, iteT ?_⟩
      exact leaf _ _ _ rfl S1 s1
    | succ d =>
      refine ⟨_, rfl, rfl, false, ?_, iteF ?_⟩
      · have e : (natV (d + 1) = V.int 0) → False := fun z => by
          have := V.int.inj z
          omega
        exact congrArg V.bl (decide_eq_false e)
      refine ⟨_, rfl, (by show 0 ≤ sizeLine; decide), fun q hq => ?_⟩
      have s2 : Same H1 (upd H1 q (.lst [])) := same_step (Same.refl H1) hq
      have hq2 : upd H1 q (.lst []) q = some (.lst []) := upd_same
      generalize upd H1 q (.lst []) = H2 at *
      have ht2 := s2 _ _ ht1
      have S2 := S1.sameS s2
      have s12 : Same2 p l H H2 := fun b o e n1 n2 => s2 b o (s1 b o e n1 n2)
      refine ⟨.list (ns.map PyData.str), .list [], .lst (SqL.of ht2) (dpStrs ns), .lst (SqL.of hq2) .nil, shpStrsL ok, by decide +kernel, ?_⟩
      have third : ([V.ref p, .ref t, .int (((d + 1 : Nat) : Int) - 1)] : List V) = [.ref p, .ref t, natV d] := by
        rw [show (((d + 1 : Nat) : Int) - 1) = ((d : Nat) : Int) by omega]
      have cs := cost_succ d
      have cp := cost_pos d
      cases ns with
      | nil =>
        refine ⟨true, by simp [PyData.eqv, PyData.eqvAll], iteT ?_⟩
        exact leaf _ _ _ rfl S2 s12
      | cons m ms =>
        refine ⟨false, by simp [PyData.eqv, PyData.eqvAll], iteF ?_⟩
        refine ⟨_, rfl, _, _, rfl, rfl, _, rfl, ite2 (fun _ => ?_) (fun _ => ?_)⟩
        · exact leaf _ _ _ rfl S2 s12
        refine ⟨_, rfl, _, _, rfl, rfl, _, rfl, ite2 (fun _ => ?_) (fun _ => ?_)⟩
        · refine ⟨_, rfl, _, rfl, _, rfl, _, _, rfl, rfl, p, l, t, n + 1, m :: ms, third, S2, by omega, ht2, tp, tl, ok, h14, fun v tr n' H3 hn3 S3 T3 d3 u3 s3 => ?_⟩
          refine ⟨(by show 2 ≤ sizeLine; decide), fun r hr3 => ?_⟩
          have s4 : Same H3 (upd H3 r (.tup [.str "not", v])) := same_step (Same.refl H3) hr3
          refine k (.ref r) (.not tr) n' _ (by omega) (S3.sameS s4) (.not upd_same (T3.same s4)) (Nat.succ_le_succ d3) u3 fun b o e n1 n2 => s4 b o (s3 b o (s12 b o e n1 n2) n1 n2)
        · refine ⟨_, rfl, by decide, by decide, fun D hD => ?_⟩
          have hD0 : H D = none := by
            cases q : H D with
            | none => rfl
            | some o =>
              by_cases n1 : D = p
              · obtain ⟨_, _, _, _, p2, _⟩ := S2
                rw [n1, p2] at hD
                cases hD
              by_cases n2 : D = l
              · obtain ⟨_, _, _, _, _, l2, _⟩ := S2
                rw [n2, l2] at hD
                cases hD
              rw [s12 D o q n1 n2] at hD
              cases hD
          have dS := Spr.apart S2 hD
          have s5 : Same H2 (upd H2 D (.lst [])) := same_step (Same.refl H2) hD
          have tD : t ≠ D := ne_of_none ht2 hD
          refine lc_range (lo := 0) (n := 2) (fun i H' => ∃ (vs : List V) (n' : Nat), H' D = some (.lst vs) ∧ vs.length = i ∧ n' + i ≤ n + 1 + i * cost d ∧ (∀ v ∈ vs, ∃ tr : Tr, TreeAt H' v tr ∧ tr.depth ≤ d ∧ ∀ z ∈ tr.names, z ∈ m :: ms) ∧ Spr H' p l n' ∧ H' t = some (.lst ((m :: ms).map V.str)) ∧ Same2 p l H H')
            ⟨[], n + 1, upd_same, rfl, by omega, (fun v hv => by cases hv), S2.sameS s5, s5 _ _ ht2, fun b o e n1 n2 => s5 b o (s12 b o e n1 n2)⟩ ?_ ?_
          · rintro i H3 hi ⟨vs, n', hD3, lv, hn3, all, S3, ht3, t3⟩
            refine ⟨rfl, ?_⟩
            refine iteT (B := False) ?_
            rw [if_pos rfl]
            have bnd : n' + cost d ≤ 1000000 := by
              have two : i = 0 ∨ i = 1 := by omega
              rcases two with e | e
              · rw [e] at hn3
                omega
              · rw [e] at hn3
                omega
            refine ⟨_, rfl, _, rfl, _, rfl, _, _, rfl, rfl, p, l, t, n', m :: ms, third, S3, bnd, ht3, tp, tl, ok, h14, fun v tr n4 H4 hn4 S4 T4 d4 u4 s4 => ?_⟩
            have hD4 := s4 _ _ hD3 dS.1 dS.2
            obtain ⟨_, _, _, _, p3, l3, _⟩ := id S3
            have move : ∀ {v : V} {tr : Tr}, TreeAt H4 v tr → TreeAt (upd H4 D (.lst (vs ++ [v]))) v tr := fun {v tr} h => by
              refine TreeAt.same2 (p := D) (l := D) (fun xs e => ?_) (fun xs e => ?_) Same2.updp h
              · rw [hD4] at e
                cases e
              · rw [hD4] at e
                cases e
            have move2 : ∀ (x : V) {v : V} {tr : Tr}, TreeAt H4 v tr → TreeAt (upd H4 D (.lst (vs ++ [x]))) v tr := fun x {v tr} h => by
              refine TreeAt.same2 (p := D) (l := D) (fun xs e => ?_) (fun xs e => ?_) Same2.updp h
              · rw [hD4] at e
                cases e
              · rw [hD4] at e
                cases e
            refine ⟨vs, hD4, ?_, vs ++ [v], n4, upd_same, by rw [List.length_append, lv]; rfl, ?_, fun x hx => ?_, S4.off (H' := H4) dS.1 dS.2, ?_, ?_⟩
            · have : 65 ≤ sizeLine := by decide
              omega
            · rw [Nat.succ_mul]
              omega
            · rcases List.mem_append.mp hx with e | e
              · obtain ⟨tr', h1, h3, h4⟩ := all x e
                exact ⟨tr', move2 v (h1.same2 (fun xs e => by rw [p3] at e; cases e) (fun xs e => by rw [l3] at e; cases e) s4), h3, h4⟩
              · rw [List.mem_singleton.mp e]
                exact ⟨tr, move2 v T4, d4, u4⟩
            · rw [upd_ne tD]
              exact s4 _ _ ht3 tp tl
            · intro b o e n1 n2
              rw [upd_ne (ne_of_none e hD0)]
              exact s4 b o (t3 b o e n1 n2) n1 n2
          · rintro H3 ⟨vs, n', hD3, lv, hn3, all, S3, ht3, t3⟩
            obtain ⟨v1, v2, rfl⟩ : ∃ v1 v2, vs = [v1, v2] := by
              match vs, lv with
              | [v1, v2], _ => exact ⟨v1, v2, rfl⟩
            obtain ⟨t1, T1, d1, u1⟩ := all v1 (List.mem_cons_self ..)
            obtain ⟨t2, T2, d2, u2⟩ := all v2 (List.mem_cons_of_mem _ (List.mem_singleton.mpr rfl))
            refine ⟨(by show 3 ≤ sizeLine; decide), fun q hq => ?_⟩
            have s6 : Same H3 (upd H3 q (.lst [.str "and", .str "or", .str "xor"])) := same_step (Same.refl H3) hq
            have hq6 : upd H3 q (.lst [.str "and", .str "or", .str "xor"]) q = some (.lst [.str "and", .str "or", .str "xor"]) := upd_same
            generalize upd H3 q (.lst [.str "and", .str "or", .str "xor"]) = H6 at *
            have hD6 := s6 _ _ hD3
            have fin : ∀ (o : Op3) (r : Addr), H6 r = none → Q (.ref r) (upd H6 r (.tup [.str o.nm, v1, v2])) := fun o r hr6 => by
              have s7 : Same H3 (upd H6 r (.tup [.str o.nm, v1, v2])) := same_step s6 hr6
              refine k (.ref r) (.bin o t1 t2) n' _ (by omega) (S3.sameS s7) (.bin upd_same (T1.same s7) (T2.same s7)) (Nat.succ_le_succ (Nat.max_le.mpr ⟨d1, d2⟩)) (fun z hz => ?_) fun b o' e n1 n2 => s7 b o' (t3 b o' e n1 n2)
              rcases List.mem_append.mp hz with e | e
              · exact u1 z e
              · exact u2 z e
            refine ⟨_, rfl, _, _, rfl, rfl, (by show (0 : Int) < 3; decide), ?_⟩
            have b0 : 0 ≤ way % 3 := Int.emod_nonneg _ (by decide)
            have b1 : way % 3 < 3 := Int.emod_lt_of_pos _ (by decide)
            have three : way % 3 = 0 ∨ way % 3 = 1 ∨ way % 3 = 2 := by omega
            rcases three with e | e | e
            · refine ⟨q, _, way % 3, .str "and", rfl, rfl, SqL.of hq6, by rw [e]; rfl, _, rfl, D, _, _, _, rfl, rfl, SqL.of hD6, at_of (j := 0) rfl rfl, _, rfl, D, _, _, _, rfl, rfl, SqL.of hD6, at_of (j := 1) rfl rfl, (by show 3 ≤ sizeLine; decide), fun r hr6 => fin .and r hr6⟩
            · refine ⟨q, _, way % 3, .str "or", rfl, rfl, SqL.of hq6, by rw [e]; rfl, _, rfl, D, _, _, _, rfl, rfl, SqL.of hD6, at_of (j := 0) rfl rfl, _, rfl, D, _, _, _, rfl, rfl, SqL.of hD6, at_of (j := 1) rfl rfl, (by show 3 ≤ sizeLine; decide), fun r hr6 => fin .or r hr6⟩
            · refine ⟨q, _, way % 3, .str "xor", rfl, rfl, SqL.of hq6, by rw [e]; rfl, _, rfl, D, _, _, _, rfl, rfl, SqL.of hD6, at_of (j := 0) rfl rfl, _, rfl, D, _, _, _, rfl, rfl, SqL.of hD6, at_of (j := 1) rfl rfl, (by show 3 ≤ sizeLine; decide), fun r hr6 => fin .xor r hr6⟩
theorem ok_tree {f : Addr} {fd : FuncData} (D : Dn P w K mg base "_law_draw" ["_law_spring_here", "_law_many"] 1 spDraw) (Pk : Dn P w K mg base "_law_pick" ["_law_spring_here", "_law_things"] 2 (spPick K)) (mR : mg "range" = none)
    (F : Fun K "_law_tree" "_law_tree" s_l_tree f fd) (mF : mg "_law_tree" = some (.ref f)) (bF : Binds K fd ["_law_spring_here", "_law_names_here", "_law_depth"] []) : ∀ d, FnOk P w K mg base CX0 (d + 3) f fd ["_law_spring_here", "_law_names_here", "_law_depth"] (spTree K d)
  | 0 => tree_step 0 D Pk mR F mF bF never_ok
  | d + 1 => tree_step (d + 1) D Pk mR F mF bF (ok_tree D Pk mR F mF bF d)
end
end Cm

set_option Elab.async false
set_option linter.all false
set_option maxRecDepth 100000
set_option maxHeartbeats 8000000
namespace Cm
open PySem PySem.Spec PyProof.Rows L2 Kv
/-! ### all choices of some names -/
def chs : List Str → List (List Str)
  | [] => [[]]
  | n :: r => [] :: ((chs r).map fun s => n :: s) ++ (chs r).drop 1
theorem chs_len : ∀ r : List Str, (chs r).length = 2 ^ r.length
  | [] => rfl
  | n :: r => by
    have ih := chs_len r
    have p : 0 < 2 ^ r.length := Nat.pow_pos (by decide)
    unfold chs
    rw [List.length_append, List.length_cons, List.length_map, List.length_drop, ih, List.length_cons, Nat.pow_succ]
    omega
theorem chs_row : ∀ l : List Str, ∀ r ∈ chs l, r.length ≤ l.length
  | [], r, h => by
    rw [List.mem_singleton.mp h]
    exact Nat.le_refl _
  | n :: l, r, h => by
    unfold chs at h
    rcases List.mem_append.mp h with h | h
    · rcases List.mem_cons.mp h with h | h
      · rw [h]
        exact Nat.zero_le _
      · obtain ⟨s, h1, h2⟩ := List.mem_map.mp h
        rw [← h2]
        exact Nat.succ_le_succ (chs_row l s h1)
    · exact Nat.le_succ_of_le (chs_row l r ((List.drop_sublist 1 _).subset h))
inductive RowsAt (H : Hp) : List V → List (List Str) → Prop
  | nil : RowsAt H [] []
  | cons {a : Addr} {r : List Str} {vs : List V} {rs : List (List Str)} (h : H a = some (.tup (r.map V.str))) (t : RowsAt H vs rs) : RowsAt H (.ref a :: vs) (r :: rs)
theorem RowsAt.keep {H H' : Hp} {vs : List V} {rs : List (List Str)} (h : RowsAt H vs rs) (k : ∀ a xs, H a = some (.tup xs) → H' a = some (.tup xs)) : RowsAt H' vs rs := by
  induction h with
  | nil => exact .nil
  | cons h _ ih => exact .cons (k _ _ h) ih
theorem RowsAt.append {H : Hp} {vs us : List V} {rs qs : List (List Str)} (h : RowsAt H vs rs) (h' : RowsAt H us qs) : RowsAt H (vs ++ us) (rs ++ qs) := by
  induction h with
  | nil => exact h'
  | cons h _ ih => exact .cons h ih
theorem RowsAt.drop {H : Hp} {vs : List V} {rs : List (List Str)} (h : RowsAt H vs rs) : RowsAt H (vs.drop 1) (rs.drop 1) := by
  cases h with
  | nil => exact .nil
  | cons h t => exact t
theorem RowsAt.len {H : Hp} {vs : List V} {rs : List (List Str)} (h : RowsAt H vs rs) : vs.length = rs.length := by
  induction h with
  | nil => rfl
  | cons h _ ih => rw [List.length_cons, List.length_cons, ih]
theorem RowsAt.get {H : Hp} {vs : List V} {rs : List (List Str)} (h : RowsAt H vs rs) : ∀ {i : Nat} {v : V}, vs[i]? = some v → ∃ a r, v = .ref a ∧ rs[i]? = some r ∧ H a = some (.tup (r.map V.str)) := by
  induction h with
  | nil =>
    intro i v e
    simp at e
  | @cons a r vs rs h _ ih =>
    intro i v e
    cases i with
    | zero =>
      have e : V.ref a = v := by simpa using e
      exact ⟨a, r, e.symm, rfl, h⟩
    | succ i => exact ih (by simpa using e)
theorem cut_one (us : List V) : cutV us (some 1) Option.none = us.drop 1 := by
  cases us with
  | nil => rfl
  | cons u us =>
    unfold cutV
    have e1 : HT.sIx (u :: us).length 0 (some 1) = 1 := by
      unfold HT.sIx
      simp
    have e2 : HT.sIx (u :: us).length (u :: us).length Option.none = (u :: us).length := rfl
    rw [e1, e2]
    simp
def spChoices (K : PySem.W.Frag) : Sp := fun vs H Q _ => ∃ (a : Addr) (ns : List Str), vs = [.ref a] ∧ SqL K H a (ns.map V.str) ∧ ns.length ≤ 6 ∧
  ∀ (ys : List Str) (L : Addr) (us : List V) (H' : Hp), ys.Perm ns → sortedS ys = true → Same H H' → H L = none → H' L = some (.lst us) → RowsAt H' us (chs ys) → Q (.ref L) H'
section
variable {P : Program} {w : World} {K : PySem.W.Frag} {mg : Str → Option Value} {base : Heap}
theorem scChoices : FnScope ["_law_names_here", "_law_found", "_law_one", "_law_name", "_law_some"] ["_law_names_here"] (defScope s_l_choices) := ⟨rfl, rfl, rfl, by decide +kernel, rfl, by decide +kernel, by decide +kernel⟩
theorem ok_choices {f : Addr} {fd : FuncData} (mS : mg "sorted" = none) (mStr : mg "str" = none) (F : Fun K "_law_choices" "_law_choices" s_l_choices f fd) : FnOk P w K mg base CX0 1 f fd ["_law_names_here"] (spChoices K) := by
  refine F.ok scChoices (fun vs H Q E h => ?_) (fun cdv A outer s H vs Q E hr h => ?_)
  · obtain ⟨a, ns, rfl, _⟩ := h
    rfl
  · obtain ⟨a, ns, rfl, hS, hn, k⟩ := h
    refine ⟨_, pss_cons (ps_set (i := 1) scChoices.nd rfl (Or.inl rfl) (pe_lst (pa_cons (pe_tup pa_nil) pa_nil)))
      (pss_cons (ps_for PassesOwn.never rfl (pi_list (pe_revL (pe_callB cr_sortedS (by rfl) mS (by decide +kernel) (pa_cons (pe_lc (own := [("_law_one", 2)]) (g := gName 2) (tt := tYes) (by rfl) scChoices.nd (pi_list (pv 0))
          (blkOk_by (own := [("_law_one", 2)]) (N := ["_law_names_here", "_law_found", "_law_one", "_law_name", "_law_some"]) (sc := defScope s_l_choices) (by decide +kernel))
          (fun _ _ _ _ _ => pg_name (i := 2) scChoices.nd rfl (Or.inl rfl)) (fun _ _ _ _ _ => pts_nil) (fun _ _ _ _ _ => pe_callTy SkE.call_str_str (by rfl) mStr (by decide +kernel) (pa_cons (pv 2) pa_nil))) pa_nil))))
        (pg_name (i := 3) scChoices.nd rfl (Or.inr rfl))
        (pss_one (ps_set (i := 1) scChoices.nd rfl (Or.inl rfl) (pe_op op_cat (pe_op op_cat (pe_lst (pa_cons (pe_tup pa_nil) pa_nil))
          (pe_lc (own := [("_law_some", 4)]) (g := gName 4) (tt := tYes) (te := tOp (rCatT K) (tTup (tCons (tVar 3) tNil)) (tVar 4)) (by rfl) scChoices.nd (pi_list (pv 1))
            (blkOk_by (own := [("_law_some", 4)]) (N := ["_law_names_here", "_law_found", "_law_one", "_law_name", "_law_some"]) (sc := defScope s_l_choices) (by decide +kernel))
            (fun _ _ _ _ _ => pg_name (i := 4) scChoices.nd rfl (Or.inl rfl)) (fun _ _ _ _ _ => pts_nil) (fun _ _ _ _ _ => pe_op op_catT (pe_tup (pa_cons (pv 3) pa_nil)) (pv 4))))
          (pe_slice sl_list (pv 1) (po_some pe_int) po_none)))))
      (pss_one (ps_ret (pv 1)))), ?_⟩
    refine ⟨(by show 0 ≤ sizeLine; decide), fun e he => ⟨(by show 1 ≤ sizeLine; decide), fun A hA => ?_⟩⟩
    have s1 : Same H (upd (upd H e (.tup [])) A (.lst [.ref e])) := same_step (same_step (Same.refl H) he) hA
    have neA : e ≠ A := fun q => by
      rw [← q, upd_same] at hA
      cases hA
    have e1 : upd (upd H e (.tup [])) A (.lst [.ref e]) e = some (.tup (([] : List Str).map V.str)) := by rw [upd_ne neA, upd_same]; rfl
    have A1 : upd (upd H e (.tup [])) A (.lst [.ref e]) A = some (.lst [.ref e]) := upd_same
    have hA0 : H A = none := by
      rw [upd_ne neA.symm] at hA
      exact hA
    generalize upd (upd H e (.tup [])) A (.lst [.ref e]) = H1 at *
    refine ⟨_, rfl, a, rfl, ⟨_, sqL_same hS s1⟩, fun D hD => ?_⟩
    refine lc_list (K := K) (a := a) (xs := ns.map V.str) (fun i H' => Same H1 H' ∧ H' D = some (.lst ((ns.take i).map V.str))) ⟨same_step (Same.refl H1) hD, upd_same⟩ (fun i H' _ z => sqL_same (sqL_same hS s1) z.1) ?_ ?_
    · rintro i x H2 hx ⟨sH, hL⟩
      rw [List.getElem?_map] at hx
      obtain ⟨n, hn', rfl⟩ := Option.map_eq_some_iff.mp hx
      have hi := (List.getElem?_eq_some_iff.mp hn').1
      refine ⟨rfl, ?_⟩
      refine iteT (B := False) ?_
      rw [if_pos rfl]
      refine ⟨_, rfl, n, rfl, _, hL, ?_, same_over sH hD, ?_⟩
      · rw [List.length_map, List.length_take]
        have : 65 ≤ sizeLine := by decide
        omega
      · rw [upd_same, List.take_succ_eq_append_getElem hi, List.map_append]
        rw [List.getElem?_eq_getElem hi] at hn'
        rw [Option.some.inj hn']
        rfl
    · rintro H2 ⟨sH, hL⟩
      rw [List.length_map, List.take_length] at hL
      refine ⟨D, ns, rfl, SqL.of hL, by omega, fun ys p pm srt hp => ⟨p, _, rfl, SqL.of upd_same, fun R hR => ⟨R, rfl, ⟨_, SqL.of upd_same⟩, ?_⟩⟩⟩
      have s3 : Same H1 (upd (upd H2 p (.lst (ys.map V.str))) R (.lst (ys.map V.str).reverse)) := same_step (same_step sH hp) hR
      have R3 : upd (upd H2 p (.lst (ys.map V.str))) R (.lst (ys.map V.str).reverse) R = some (.lst (ys.map V.str).reverse) := upd_same
      generalize upd (upd H2 p (.lst (ys.map V.str))) R (.lst (ys.map V.str).reverse) = H3 at *
      have ly := pm.length_eq
      have lr : (ys.map V.str).reverse.length = ys.length := by rw [List.length_reverse, List.length_map]
      refine for_list (xs := (ys.map V.str).reverse) (fun i σ H' => Same H H' ∧ H' R = some (.lst (ys.map V.str).reverse) ∧ ∃ (B : Addr) (us : List V) (c2 c3 c4 : Option V), σ = [some (.ref a), some (.ref B), c2, c3, c4] ∧ H B = none ∧ H' B = some (.lst us) ∧ RowsAt H' us (chs (ys.drop (ys.length - i))))
        ⟨fun b o z => s3 b o (s1 b o z), R3, A, [.ref e], _, _, _, rfl, hA0, s3 _ _ A1, ?_⟩ (fun i σ H' _ z => SqL.of z.2.1) ?_ ?_
      · rw [Nat.sub_zero, List.drop_length]
        exact .cons (s3 _ _ e1) .nil
      · rintro i x σ H4 hx ⟨s4, R4, B, us, c2, c3, c4, rfl, hB0, hB4, rows⟩
        have hi := (List.getElem?_eq_some_iff.mp hx).1
        rw [lr] at hi
        obtain ⟨n, hn1, rfl⟩ : ∃ n, ys[ys.length - 1 - i]? = some n ∧ x = V.str n := by
          rw [List.getElem?_reverse (by rw [List.length_map]; exact hi), List.length_map, List.getElem?_map] at hx
          obtain ⟨n, h1, h2⟩ := Option.map_eq_some_iff.mp hx
          exact ⟨n, h1, h2.symm⟩
        have dr : ys.drop (ys.length - (i + 1)) = n :: ys.drop (ys.length - i) := by
          have q : ys.length - (i + 1) < ys.length := by omega
          have q2 : ys.length - 1 - i = ys.length - (i + 1) := by omega
          rw [List.drop_eq_getElem_cons q]
          rw [q2, List.getElem?_eq_getElem q] at hn1
          rw [Option.some.inj hn1, show ys.length - (i + 1) + 1 = ys.length - i by omega]
        have lu := rows.len
        rw [chs_len, List.length_drop] at lu
        have l64 : us.length ≤ 64 := by
          rw [lu]
          exact Nat.le_trans (Nat.pow_le_pow_right (by decide) (show ys.length - (ys.length - i) ≤ 6 by omega)) (by decide)
        have big : 300 ≤ sizeLine := by decide
        refine ⟨(by show 0 ≤ sizeLine; decide), fun e4 he4 => ⟨(by show 1 ≤ sizeLine; decide), fun A4 hA4 => ?_⟩⟩
        have s5 : Same H4 (upd (upd H4 e4 (.tup [])) A4 (.lst [.ref e4])) := same_step (same_step (Same.refl H4) he4) hA4
        have ne4 : e4 ≠ A4 := fun q => by
          rw [← q, upd_same] at hA4
          cases hA4
        have e5 : upd (upd H4 e4 (.tup [])) A4 (.lst [.ref e4]) e4 = some (.tup (([] : List Str).map V.str)) := by rw [upd_ne ne4, upd_same]; rfl
        have A5 : upd (upd H4 e4 (.tup [])) A4 (.lst [.ref e4]) A4 = some (.lst [.ref e4]) := upd_same
        generalize upd (upd H4 e4 (.tup [])) A4 (.lst [.ref e4]) = H5 at *
        have hB5 := s5 _ _ hB4
        refine ⟨_, rfl, B, rfl, ⟨_, SqL.of hB5⟩, fun D2 hD2 => ?_⟩
        refine lc_list (K := K) (a := B) (xs := us) (fun j H' => Same H5 H' ∧ ∃ ts : List V, H' D2 = some (.lst ts) ∧ ts.length = j ∧ RowsAt H' ts (((chs (ys.drop (ys.length - i))).take j).map fun s => n :: s)) ⟨same_step (Same.refl H5) hD2, [], upd_same, rfl, .nil⟩ (fun j H' _ z => SqL.of (z.1 _ _ hB5)) ?_ ?_
        · rintro j v H6 hv ⟨s6, ts, hD6, lt, rt⟩
          obtain ⟨b, r, rfl, hr1, hb⟩ := rows.get hv
          have hj := (List.getElem?_eq_some_iff.mp hv).1
          have hb6 := s6 _ _ (s5 _ _ hb)
          have tk : (chs (ys.drop (ys.length - i))).take (j + 1) = (chs (ys.drop (ys.length - i))).take j ++ [r] := by
            have q := (List.getElem?_eq_some_iff.mp hr1).1
            rw [List.take_succ_eq_append_getElem q]
            rw [List.getElem?_eq_getElem q] at hr1
            rw [Option.some.inj hr1]
          have fin : ∀ (q : Addr) (H7 : Hp), Same H6 H7 → H7 q = some (.tup ((n :: r).map V.str)) → ∃ acc, H7 D2 = some (.lst acc) ∧ acc.length < sizeLine ∧ (Same H5 (upd H7 D2 (.lst (acc ++ [.ref q]))) ∧ ∃ ts : List V, upd H7 D2 (.lst (acc ++ [.ref q])) D2 = some (.lst ts) ∧ ts.length = j + 1 ∧
              RowsAt (upd H7 D2 (.lst (acc ++ [.ref q]))) ts (((chs (ys.drop (ys.length - i))).take (j + 1)).map fun s => n :: s)) := fun q H7 s7 hq => by
            have hD7 := s7 _ _ hD6
            have mv : ∀ a xs, H7 a = some (.tup xs) → upd H7 D2 (.lst (ts ++ [.ref q])) a = some (.tup xs) := fun a xs z => by
              have na : a ≠ D2 := fun w => by
                rw [w, hD7] at z
                cases z
              rw [upd_ne na]
              exact z
            refine ⟨ts, hD7, by omega, same_over (fun b o z => s7 b o (s6 b o z)) hD2, ts ++ [.ref q], upd_same, by rw [List.length_append, lt]; rfl, ?_⟩
            rw [tk, List.map_append]
            refine RowsAt.append ((rt.keep fun a xs z => s7 _ _ z).keep mv) (.cons (mv _ _ hq) .nil)
          refine ⟨rfl, ?_⟩
          refine iteT (B := False) ?_
          rw [if_pos rfl]
          refine ⟨_, rfl, (by show 1 ≤ sizeLine; decide), fun q hq => ?_⟩
          have s7 : Same H6 (upd H6 q (.tup [.str n])) := same_step (Same.refl H6) hq
          have q7 : upd H6 q (.tup [.str n]) q = some (.tup [.str n]) := upd_same
          generalize upd H6 q (.tup [.str n]) = H7 at *
          refine ⟨_, rfl, q, b, [.str n], r.map V.str, rfl, rfl, SqT.of q7, SqT.of (s7 _ _ hb6), by simp, ?_, fun z => ?_, fun z w hw => ?_⟩
          · have q1 := chs_row _ r (List.mem_of_getElem? hr1)
            rw [List.length_drop] at q1
            rw [List.length_map]
            show 1 + _ ≤ _
            omega
          · refine fin q H7 s7 ?_
            rw [q7, List.map_cons, z]
          · refine fin w _ (same_step s7 hw) ?_
            rw [upd_same]
            rfl
        · rintro H6 ⟨s6, ts, hD6, lt, rt⟩
          rw [lu, ← List.length_drop, ← chs_len, List.take_length] at rt
          have A6 := s6 _ _ A5
          refine ⟨A4, D2, _, _, rfl, rfl, A6, hD6, ?_, fun B1 hB1 => ?_⟩
          · show 1 + _ ≤ _
            omega
          have s7 : Same H6 (upd H6 B1 (.lst ([.ref e4] ++ ts))) := same_step (Same.refl H6) hB1
          have B7 : upd H6 B1 (.lst ([.ref e4] ++ ts)) B1 = some (.lst ([.ref e4] ++ ts)) := upd_same
          generalize upd H6 B1 (.lst ([.ref e4] ++ ts)) = H7 at *
          have hB7 := s7 _ _ (s6 _ _ hB5)
          refine ⟨_, rfl, 1, rfl, B, us, rfl, SqL.of hB7, fun C hC => ?_⟩
          rw [cut_one]
          have s8 : Same H7 (upd H7 C (.lst (us.drop 1))) := same_step (Same.refl H7) hC
          have C8 : upd H7 C (.lst (us.drop 1)) C = some (.lst (us.drop 1)) := upd_same
          generalize upd H7 C (.lst (us.drop 1)) = H8 at *
          have s48 : Same H4 H8 := fun b o z => s8 b o (s7 b o (s6 b o (s5 b o z)))
          refine ⟨B1, C, _, _, rfl, rfl, s8 _ _ B7, C8, ?_, fun N hN => ?_⟩
          · rw [List.length_append, List.length_drop]
            show 1 + _ + _ ≤ _
            omega
          have s9 : Same H8 (upd H8 N (.lst ([.ref e4] ++ ts ++ us.drop 1))) := same_step (Same.refl H8) hN
          refine ⟨fun b o z => s9 b o (s48 b o (s4 b o z)), s9 _ _ (s48 _ _ R4), N, _, _, _, _, rfl, ?_, upd_same, ?_⟩
          · have s08 : Same H H8 := fun b o z => s48 b o (s4 b o z)
            exact s08.free hN
          · rw [dr]
            unfold chs
            have r1 := rt.keep fun a xs z => s9 _ _ (s8 _ _ (s7 _ _ z))
            have r2 := (rows.drop).keep fun a xs z => s9 _ _ (s48 _ _ z)
            exact RowsAt.append (RowsAt.cons (s9 _ _ (s8 _ _ (s7 _ _ (s6 _ _ e5)))) r1) r2
      · rintro σ H4 ⟨s4, R4, B, us, c2, c3, c4, rfl, hB0, hB4, rows⟩
        rw [lr, Nat.sub_self, List.drop_zero] at rows
        exact ⟨_, rfl, k ys B us H4 pm srt s4 hB0 hB4 rows⟩
end
end Cm

set_option Elab.async false
set_option linter.all false
set_option maxRecDepth 100000
set_option maxHeartbeats 8000000
namespace Cm
open PySem PySem.Spec PyProof.Rows L2 Kv
/-! ### the law's look at two things -/
/-- truth values and texts -/
def flat2 : V → Bool
  | .bl _ => true
  | .str _ => true
  | _ => false
theorem kit2 {K : PySem.W.Frag} {a b c : String} {r q : Bool} (h : kitB a b = some r) (h' : kitB a c = some q) : PySem.W.kitAny K (.type a) [.type b, .type c] = some (r || q) :=
  kitAny_cons (kit_ty h) (fun e => by rw [e, Bool.false_or]; exact kitAny_cons (kit_ty h') (fun e' => by rw [e']; rfl) fun e' => e') fun e => by rw [e, Bool.true_or]
theorem kit3 {K : PySem.W.Frag} {a b c d : String} {r q p : Bool} (h : kitB a b = some r) (h' : kitB a c = some q) (h'' : kitB a d = some p) : PySem.W.kitAny K (.type a) [.type b, .type c, .type d] = some (r || (q || p)) :=
  kitAny_cons (kit_ty h) (fun e => by rw [e, Bool.false_or]; exact kit2 h' h'') fun e => by rw [e, Bool.true_or]
theorem zip_all : ∀ {xs ys : List V}, xs.length = ys.length → ((xs.zip ys).all (id ∘ fun q => decide (q.1 = q.2))) = decide (xs = ys)
  | [], [], _ => by simp
  | [], y :: ys, h => by simp at h
  | x :: xs, [], h => by simp at h
  | x :: xs, y :: ys, h => by
    have ih := zip_all (xs := xs) (ys := ys) (by simpa using h)
    rw [List.zip_cons_cons, List.all_cons, ih]
    by_cases e : x = y
    · subst e
      simp
    · simp [e]
/-- two truth values, two texts, two lists of these -/
def spSame (K : PySem.W.Frag) (d : Nat) : Sp := fun vs H Q _ => ∃ x y : V, vs = [x, y] ∧
  ((flat2 x = true ∧ flat2 y = true ∧ ∀ H', Same H H' → Q (.bl (decide (x = y))) H') ∨
    (0 < d ∧ ∃ (a b : Addr) (xs ys : List V), x = .ref a ∧ y = .ref b ∧ H a = some (.lst xs) ∧ H b = some (.lst ys) ∧ (∀ v ∈ xs, flat2 v = true) ∧ (∀ v ∈ ys, flat2 v = true) ∧ xs.length ≤ 1000 ∧ ∀ H', Same H H' → Q (.bl (decide (xs = ys))) H'))
section
variable {P : Program} {w : World} {K : PySem.W.Frag} {mg : Str → Option Value} {base : Heap}
theorem scSame : FnScope ["_law_found", "_law_due", "_law_x", "_law_y"] ["_law_found", "_law_due"] (defScope s_l_same) := ⟨rfl, rfl, rfl, by decide +kernel, rfl, by decide +kernel, by decide +kernel⟩
theorem same_step' {f : Addr} {fd : FuncData} (d : Nat) (mI : mg "isinstance" = none) (mList : mg "list" = none) (mTup : mg "tuple" = none) (mInt : mg "int" = none) (mBool : mg "bool" = none) (mLen : mg "len" = none) (mAll : mg "all" = none) (mZ : mg "zip" = none)
    (F : Fun K "_law_same" "_law_same" s_l_same f fd) (mF : mg "_law_same" = some (.ref f)) (bF : Binds K fd ["_law_found", "_law_due"] [])
    (G : FnOk P w K mg base CX0 d f fd ["_law_found", "_law_due"] (prev (spSame K) d)) : FnOk P w K mg base CX0 (d + 1) f fd ["_law_found", "_law_due"] (spSame K d) := by
  refine F.ok scSame (fun vs H Q E h => ?_) (fun cdv A outer s H vs Q E hr h => ?_)
  · obtain ⟨x, y, rfl, _⟩ := h
    rfl
  · obtain ⟨x, y, rfl, h⟩ := h
    refine ⟨_, pss_cons (ps_if (pt_val (pe_callB call_isiT (by rfl) mI (by decide +kernel) (pa_cons (pv 1) (pa_cons (pe_tup (pa_cons (pe_bltn (v := .ty "list") (by rfl) mList (by decide +kernel) rfl) (pa_cons (pe_bltn (v := .ty "tuple") (by rfl) mTup (by decide +kernel) rfl) pa_nil))) pa_nil))))
        (pss_cons (ps_if (PW.pt (pw_or (pt_cmpR op_ne (pe_callB call_isi (by rfl) mI (by decide +kernel) (pa_cons (pv 0) (pa_cons (pe_bltn (v := .ty "list") (by rfl) mList (by decide +kernel) rfl) pa_nil))) (pe_callB call_isi (by rfl) mI (by decide +kernel) (pa_cons (pv 1) (pa_cons (pe_bltn (v := .ty "list") (by rfl) mList (by decide +kernel) rfl) pa_nil))) (nomark _))
            (pw_or1 (pt_cmpR op_ne (pe_callB call_isi (by rfl) mI (by decide +kernel) (pa_cons (pv 0) (pa_cons (pe_bltn (v := .ty "tuple") (by rfl) mTup (by decide +kernel) rfl) pa_nil))) (pe_callB call_isi (by rfl) mI (by decide +kernel) (pa_cons (pv 1) (pa_cons (pe_bltn (v := .ty "tuple") (by rfl) mTup (by decide +kernel) rfl) pa_nil))) (nomark _))))) (pss_one (ps_ret pe_bl)) pss_nil)
        (pss_one (ps_ret (pe_and (pe_cmpR op_eq (pe_callB call_len_seq (by rfl) mLen PySem.boot_len (pa_cons (pv 0) pa_nil)) (pe_callB call_len_seq (by rfl) mLen PySem.boot_len (pa_cons (pv 1) pa_nil)) (nomark _))
          (pe_one (pe_callB (cr_all rfl) (by rfl) mAll (by decide +kernel) (pa_cons (pe_lc (own := [("_law_x", 2), ("_law_y", 3)]) (g := gTup K 2 (gCons (gName 2) (gCons (gName 3) gNil))) (tt := tYes) (te := tCall (prev (spSame K) d) [] E0 (tCons (tVar 2) (tCons (tVar 3) tNil))) (by rfl) scSame.nd (pi_zip (by rfl) mZ (pa_cons (pv 0) (pa_cons (pv 1) pa_nil)))
            (blkOk_by (own := [("_law_x", 2), ("_law_y", 3)]) (N := ["_law_found", "_law_due", "_law_x", "_law_y"]) (sc := defScope s_l_same) (by decide +kernel))
            (fun _ _ _ _ _ => pg_tup (by rfl) (pgs_cons (pg_name (i := 2) scSame.nd rfl (Or.inl rfl)) (pgs_cons (pg_name (i := 3) scSame.nd rfl (Or.inl rfl)) pgs_nil))) (fun _ _ _ _ _ => pts_nil)
            (fun _ _ _ _ _ => pe_call G hr (by rfl) mF F.kp bF .nil pass0 (pa_cons (pv 2) (pa_cons (pv 3) pa_nil)))) pa_nil))))))) pss_nil)
      (pss_cons (ps_if (pt_val (pe_callB call_isi (by rfl) mI (by decide +kernel) (pa_cons (pv 1) (pa_cons (pe_bltn (v := .ty "int") (by rfl) mInt (by decide +kernel) rfl) pa_nil))))
        (pss_one (ps_ret (pe_and (pe_callB call_isi (by rfl) mI (by decide +kernel) (pa_cons (pv 0) (pa_cons (pe_bltn (v := .ty "int") (by rfl) mInt (by decide +kernel) rfl) pa_nil)))
          (pe_and (pe_cmpR op_eq (pe_callB call_isi (by rfl) mI (by decide +kernel) (pa_cons (pv 0) (pa_cons (pe_bltn (v := .ty "bool") (by rfl) mBool (by decide +kernel) rfl) pa_nil))) (pe_callB call_isi (by rfl) mI (by decide +kernel) (pa_cons (pv 1) (pa_cons (pe_bltn (v := .ty "bool") (by rfl) mBool (by decide +kernel) rfl) pa_nil))) (nomark _))
            (pe_one (pe_cmpR op_eq (pv 0) (pv 1) (nomark _))))))) pss_nil)
      (pss_one (ps_ret (pe_and (pe_cmpR op_isBl (pe_callB call_isiT (by rfl) mI (by decide +kernel) (pa_cons (pv 0) (pa_cons (pe_tup (pa_cons (pe_bltn (v := .ty "int") (by rfl) mInt (by decide +kernel) rfl) (pa_cons (pe_bltn (v := .ty "list") (by rfl) mList (by decide +kernel) rfl) (pa_cons (pe_bltn (v := .ty "tuple") (by rfl) mTup (by decide +kernel) rfl) pa_nil)))) pa_nil))) pe_bl (nomark _)) (pe_one (pe_cmpR op_eq (pv 0) (pv 1) (nomark _))))))), ?_⟩
    rcases h with ⟨fx, fy, k⟩ | ⟨hd, a, b, xs, ys, rfl, rfl, ha, hb, hx, hy, l1, k⟩
    · have flats : ∀ v : V, flat2 v = true → (∃ c, v = .bl c) ∨ ∃ z, v = .str z := fun v h => by
        cases v <;> first | exact .inl ⟨_, rfl⟩ | exact .inr ⟨_, rfl⟩ | cases h
      rcases flats x fx with ⟨c, rfl⟩ | ⟨z, rfl⟩ <;> rcases flats y fy with ⟨c', rfl⟩ | ⟨z', rfl⟩
      · refine ⟨_, rfl, (by show 2 ≤ sizeLine; decide), fun p hp => ?_⟩
        have s1 : Same H (upd H p (.tup [.ty "list", .ty "tuple"])) := same_step (Same.refl H) hp
        have p1 : upd H p (.tup [.ty "list", .ty "tuple"]) p = some (.tup [.ty "list", .ty "tuple"]) := upd_same
        generalize upd H p (.tup [.ty "list", .ty "tuple"]) = H1 at *
        refine ⟨_, p, _, _, _, false, rfl, p1, .cons (.ty "list") (.cons (.ty "tuple") .nil), .base (.bl _), kit2 (r := false) (q := false) (by decide +kernel) (by decide +kernel), _, rfl, iteF ?_⟩
        refine ⟨_, rfl, _, _, _, _, true, rfl, .ty "int", .base (.bl _), kit_ty (by decide +kernel), _, rfl, iteT ?_⟩
        refine ⟨_, rfl, _, _, _, _, true, rfl, .ty "int", .base (.bl _), kit_ty (by decide +kernel), true, rfl, iteT ?_⟩
        refine ⟨_, rfl, _, _, _, _, true, rfl, .ty "bool", .base (.bl _), kit_ty (by decide +kernel), _, rfl, _, _, _, _, true, rfl, .ty "bool", .base (.bl _), kit_ty (by decide +kernel), rfl, true, by decide +kernel, iteT ?_⟩
        exact ⟨_, rfl, _, rfl, rfl, k H1 s1⟩
      · refine ⟨_, rfl, (by show 2 ≤ sizeLine; decide), fun p hp => ?_⟩
        have s1 : Same H (upd H p (.tup [.ty "list", .ty "tuple"])) := same_step (Same.refl H) hp
        have p1 : upd H p (.tup [.ty "list", .ty "tuple"]) p = some (.tup [.ty "list", .ty "tuple"]) := upd_same
        generalize upd H p (.tup [.ty "list", .ty "tuple"]) = H1 at *
        refine ⟨_, p, _, _, _, false, rfl, p1, .cons (.ty "list") (.cons (.ty "tuple") .nil), .base (.str _), kit2 (r := false) (q := false) (by decide +kernel) (by decide +kernel), _, rfl, iteF ?_⟩
        refine ⟨_, rfl, _, _, _, _, false, rfl, .ty "int", .base (.str _), kit_ty (by decide +kernel), _, rfl, iteF ?_⟩
        refine ⟨_, rfl, (by show 3 ≤ sizeLine; decide), fun q hq => ?_⟩
        have s2 : Same H (upd H1 q (.tup [.ty "int", .ty "list", .ty "tuple"])) := same_step s1 hq
        refine ⟨_, q, _, _, _, true, rfl, upd_same, .cons (.ty "int") (.cons (.ty "list") (.cons (.ty "tuple") .nil)), .base (.bl _), kit3 (r := true) (q := false) (p := false) (by decide +kernel) (by decide +kernel) (by decide +kernel), true, false, rfl, rfl, ?_⟩
        refine ⟨false, by decide +kernel, iteF ?_⟩
        have fin := k _ s2
        rw [decide_eq_false (fun z => by cases z)] at fin
        exact fin
      · refine ⟨_, rfl, (by show 2 ≤ sizeLine; decide), fun p hp => ?_⟩
        have s1 : Same H (upd H p (.tup [.ty "list", .ty "tuple"])) := same_step (Same.refl H) hp
        have p1 : upd H p (.tup [.ty "list", .ty "tuple"]) p = some (.tup [.ty "list", .ty "tuple"]) := upd_same
        generalize upd H p (.tup [.ty "list", .ty "tuple"]) = H1 at *
        refine ⟨_, p, _, _, _, false, rfl, p1, .cons (.ty "list") (.cons (.ty "tuple") .nil), .base (.bl _), kit2 (r := false) (q := false) (by decide +kernel) (by decide +kernel), _, rfl, iteF ?_⟩
        refine ⟨_, rfl, _, _, _, _, true, rfl, .ty "int", .base (.bl _), kit_ty (by decide +kernel), _, rfl, iteT ?_⟩
        refine ⟨_, rfl, _, _, _, _, false, rfl, .ty "int", .base (.str _), kit_ty (by decide +kernel), false, rfl, iteF ?_⟩
        have fin := k H1 s1
        rw [decide_eq_false (fun z => by cases z)] at fin
        exact fin
      · refine ⟨_, rfl, (by show 2 ≤ sizeLine; decide), fun p hp => ?_⟩
        have s1 : Same H (upd H p (.tup [.ty "list", .ty "tuple"])) := same_step (Same.refl H) hp
        have p1 : upd H p (.tup [.ty "list", .ty "tuple"]) p = some (.tup [.ty "list", .ty "tuple"]) := upd_same
        generalize upd H p (.tup [.ty "list", .ty "tuple"]) = H1 at *
        refine ⟨_, p, _, _, _, false, rfl, p1, .cons (.ty "list") (.cons (.ty "tuple") .nil), .base (.str _), kit2 (r := false) (q := false) (by decide +kernel) (by decide +kernel), _, rfl, iteF ?_⟩
        refine ⟨_, rfl, _, _, _, _, false, rfl, .ty "int", .base (.str _), kit_ty (by decide +kernel), _, rfl, iteF ?_⟩
        refine ⟨_, rfl, (by show 3 ≤ sizeLine; decide), fun q hq => ?_⟩
        have s2 : Same H (upd H1 q (.tup [.ty "int", .ty "list", .ty "tuple"])) := same_step s1 hq
        refine ⟨_, q, _, _, _, false, rfl, upd_same, .cons (.ty "int") (.cons (.ty "list") (.cons (.ty "tuple") .nil)), .base (.str _), kit3 (r := false) (q := false) (p := false) (by decide +kernel) (by decide +kernel) (by decide +kernel), false, false, rfl, rfl, ?_⟩
        refine ⟨true, by decide +kernel, iteT ?_⟩
        exact ⟨_, rfl, _, rfl, rfl, k _ s2⟩
    · cases d with
      | zero => exact absurd hd (Nat.lt_irrefl 0)
      | succ d =>
        refine ⟨_, rfl, (by show 2 ≤ sizeLine; decide), fun p hp => ?_⟩
        have s1 : Same H (upd H p (.tup [.ty "list", .ty "tuple"])) := same_step (Same.refl H) hp
        have p1 : upd H p (.tup [.ty "list", .ty "tuple"]) p = some (.tup [.ty "list", .ty "tuple"]) := upd_same
        generalize upd H p (.tup [.ty "list", .ty "tuple"]) = H1 at *
        have ha1 := s1 _ _ ha
        have hb1 := s1 _ _ hb
        refine ⟨_, p, _, _, _, true, rfl, p1, .cons (.ty "list") (.cons (.ty "tuple") .nil), .base (.lst hb1), kit2 (r := true) (q := false) (by decide +kernel) (by decide +kernel), _, rfl, iteT ?_⟩
        refine ⟨_, rfl, _, _, _, _, true, rfl, .ty "list", .base (.lst ha1), kit_ty (by decide +kernel), _, rfl, _, _, _, _, true, rfl, .ty "list", .base (.lst hb1), kit_ty (by decide +kernel), rfl, false, by decide +kernel, iteF ?_⟩
        refine ⟨_, rfl, _, _, _, _, false, rfl, .ty "tuple", .base (.lst ha1), kit_ty (by decide +kernel), _, rfl, _, _, _, _, false, rfl, .ty "tuple", .base (.lst hb1), kit_ty (by decide +kernel), rfl, false, by decide +kernel, iteF ?_⟩
        refine ⟨_, rfl, a, _, rfl, .inl (SqL.of ha1), _, rfl, b, _, rfl, .inl (SqL.of hb1), rfl, decide (xs.length = ys.length), ?_, ?_⟩
        · have e : (V.int ((xs.length : Nat) : Int) = V.int ((ys.length : Nat) : Int)) ↔ xs.length = ys.length := ⟨fun z => Int.ofNat.inj (V.int.inj z), fun z => by rw [z]⟩
          simp only [e]
        by_cases hl : xs.length = ys.length
        · rw [decide_eq_true hl]
          refine iteT ?_
          refine ⟨_, rfl, _, rfl, a, b, xs, ys, rfl, SqL.of ha1, SqL.of hb1, fun D hD => ?_⟩
          refine lc_it (walk_zip (n := xs.length) (by rw [hl, Nat.min_self])) (fun i H' => Same H1 H' ∧ H' D = some (.lst ((((xs.zip ys).take i).map fun q => decide (q.1 = q.2)).map V.bl))) ⟨same_step (Same.refl H1) hD, upd_same⟩ (fun i H' _ z => ⟨SqL.of (z.1 _ _ ha1), SqL.of (z.1 _ _ hb1)⟩) ?_ ?_
          · rintro i v H2 H3 lt ⟨s2, hL⟩ ⟨T, u1, u2, rfl, hT, rfl, e1, e2⟩
            replace e1 : xs[i]? = some u1 := e1
            replace e2 : ys[i]? = some u2 := e2
            have nDT : D ≠ T := ne_of_none hL hT
            have s3 : Same H1 (upd H2 T (.tup [u1, u2])) := same_step s2 hT
            have hL3 : upd H2 T (.tup [u1, u2]) D = some (.lst ((((xs.zip ys).take i).map fun q => decide (q.1 = q.2)).map V.bl)) := by
              rw [upd_ne nDT]
              exact hL
            have hT3 : upd H2 T (.tup [u1, u2]) T = some (.tup [u1, u2]) := upd_same
            generalize upd H2 T (.tup [u1, u2]) = H3 at *
            refine ⟨T, _, rfl, SqT.of hT3, rfl, _, _, rfl, _, _, rfl, rfl, rfl, ?_⟩
            refine iteT (B := False) ?_
            rw [if_pos rfl]
            refine ⟨_, rfl, _, rfl, u1, u2, rfl, .inl ⟨hx u1 (List.mem_of_getElem? e1), hy u2 (List.mem_of_getElem? e2), fun H4 s4 => ?_⟩⟩
            have z1 : (xs.zip ys)[i]? = some (u1, u2) := by rw [List.getElem?_zip_eq_some]; exact ⟨e1, e2⟩
            have q := (List.getElem?_eq_some_iff.mp z1).1
            refine ⟨_, s4 _ _ hL3, ?_, same_over (fun b o z => s4 b o (s3 b o z)) hD, ?_⟩
            · rw [List.length_map, List.length_map, List.length_take]
              have : 1001 ≤ sizeLine := by decide
              omega
            · rw [upd_same, List.take_succ_eq_append_getElem q, List.map_append, List.map_append]
              rw [List.getElem?_eq_getElem q] at z1
              rw [Option.some.inj z1]
              rfl
          · rintro H2 ⟨s2, hL⟩
            refine ⟨D, _, rfl, SqL.of hL, ?_⟩
            have fin := k H2 fun b o z => s2 b o (s1 b o z)
            have e : ((((xs.zip ys).take xs.length).map fun q => decide (q.1 = q.2)).all id) = decide (xs = ys) := by
              rw [List.take_of_length_le (by rw [List.length_zip]; omega), List.all_map]
              exact zip_all hl
            rw [e]
            exact fin
        · rw [decide_eq_false hl]
          refine iteF ?_
          have fin := k H1 s1
          rw [decide_eq_false (fun z => hl (by rw [z]))] at fin
          exact fin
theorem ok_same {f : Addr} {fd : FuncData} (mI : mg "isinstance" = none) (mList : mg "list" = none) (mTup : mg "tuple" = none) (mInt : mg "int" = none) (mBool : mg "bool" = none) (mLen : mg "len" = none) (mAll : mg "all" = none) (mZ : mg "zip" = none)
    (F : Fun K "_law_same" "_law_same" s_l_same f fd) (mF : mg "_law_same" = some (.ref f)) (bF : Binds K fd ["_law_found", "_law_due"] []) : ∀ d, FnOk P w K mg base CX0 (d + 1) f fd ["_law_found", "_law_due"] (spSame K d)
  | 0 => same_step' 0 mI mList mTup mInt mBool mLen mAll mZ F mF bF never_ok
  | d + 1 => same_step' (d + 1) mI mList mTup mInt mBool mLen mAll mZ F mF bF (ok_same mI mList mTup mInt mBool mLen mAll mZ F mF bF d)
end
end Cm

set_option Elab.async false
set_option linter.all false
set_option maxRecDepth 100000
set_option maxHeartbeats 8000000
/-! Dicts whose keys are tuples: made of pairs, compared. -/
namespace Kv
open PySem PySem.Spec PyProof.Rows L2
/-- pairs stored one behind the other -/
def mergeT (acc more : List (List Key × V)) : List (List Key × V) := more.foldl (fun z kv => putK z kv.1 kv.2) acc
theorem mergeT_fresh : ∀ (more acc : List (List Key × V)), (more.map Prod.fst).Nodup → (∀ p ∈ more, valV acc p.1 = none) → mergeT acc more = acc ++ more
  | [], acc, _, _ => (List.append_nil acc).symm
  | p :: more, acc, nd, no => by
    rw [List.map_cons] at nd
    obtain ⟨n1, n2⟩ := List.nodup_cons.mp nd
    have e := putK_new p.2 (no p (List.mem_cons_self ..))
    show mergeT (putK acc p.1 p.2) more = _
    rw [mergeT_fresh more _ n2 fun q hq => ?_, e, List.append_assoc]
    · rfl
    · rw [valV_put, if_neg fun z => n1 (List.mem_map.mpr ⟨q, hq, z⟩)]
      exact no q (List.mem_cons_of_mem _ hq)
theorem mergeT_nil {more : List (List Key × V)} (nd : (more.map Prod.fst).Nodup) : mergeT [] more = more := mergeT_fresh more [] nd fun _ _ => rfl
theorem KT.merge {H : Hp} {more : List (List Key × V)} {rs : List (List Key × Addr × Value)} (r : KT H more rs) : ∀ {acc : List (List Key × V)} {xs : List (List Key × Addr × Value)}, KT H acc xs → KT H (mergeT acc more) (storedAllH xs rs) := by
  induction r with
  | nil => exact fun q => q
  | @cons p q ps qs h t ih =>
    intro acc xs z
    obtain ⟨h1, h2, h3⟩ := h
    have step := KT.put z p.1 (b := q.2.1) h2 h3
    rw [h1] at step
    have e := ih step
    rw [← h1] at e
    show KT H (mergeT (putK acc p.1 p.2) ps) (storedAllH (storedH xs q.1 q.2.1 q.2.2) qs)
    rw [← h1]
    exact e
section
variable {X : Cx}
theorem rowsT_of {pins : List (Addr × Obj)} {σ : L2.St} {H : Hp} {s : Shared} (I : Inv X pins σ H s) : ∀ {ps : List Addr} {kvs : List (List Key × V)}, Paired (fun p kv => ∃ b, SqT X.K H p [V.ref b, kv.2] ∧ H b = some (.tup (kv.1.map kV))) ps kvs →
    ∃ rs : List (List Key × Addr × Value), KT H kvs rs ∧ rs.length = ps.length ∧ ∀ (j : Nat) (x : List Key × Addr × Value), rs[j]? = some x → ∃ p, ps[j]? = some p ∧ IsTup s.heap p #[Value.ref x.2.1, x.2.2]
  | _, _, .nil => ⟨[], .nil, rfl, fun j x e => by simp at e⟩
  | _, _, .cons (a := p) (b := kv) ⟨b, h1, h2⟩ t => by
    obtain ⟨rs, rel, len, all⟩ := rowsT_of I t
    obtain ⟨its, rv, tup, _⟩ := I.tuple h1
    obtain ⟨u, y, rfl, ru, ry⟩ := vals2 rv
    cases (show u = Value.ref b from ru)
    refine ⟨(kv.1, b, y) :: rs, .cons ⟨rfl, h2, ry⟩ rel, by rw [List.length_cons, List.length_cons, len], fun j x e => ?_⟩
    cases j with
    | zero =>
      cases Option.some.inj e
      exact ⟨p, rfl, tup⟩
    | succ j =>
      obtain ⟨q, e1, e2⟩ := all j x (by simpa using e)
      exact ⟨q, by simpa using e1, e2⟩
/-- dict(l), l a list of pairs (a tuple of ints and texts, a value), no key twice -/
def rDictT (K : PySem.W.Frag) : List V → Hp → VK → Prop := fun vs H Q => ∃ (a : Addr) (ps : List Addr) (kvs : List (List Key × V)), vs = [.ref a] ∧ SqL K H a (ps.map V.ref) ∧ Paired (fun p kv => ∃ b, SqT K H p [V.ref b, kv.2] ∧ H b = some (.tup (kv.1.map kV))) ps kvs ∧
  (kvs.map Prod.fst).Nodup ∧ ∀ p, H p = none → Q (.ref p) (upd H p (.dT kvs))
theorem call_dictT (calm : X.calm = true) (room : X.A.units + 3 < cLine) : CallR X (.type "dict") (rDictT X.K) := by
  intro pins s σ H vs us Q I r q
  obtain ⟨a, ps, kvs, rfl, hl, hp, nd, q⟩ := q
  obtain ⟨u, rfl, ru⟩ := vals1 r
  cases ru
  obtain ⟨its, rv, seq, len⟩ := I.list hl
  have ei := refs_at rv
  subst ei
  rw [List.length_map] at len
  obtain ⟨rs, rel, lr, all⟩ := rowsT_of I hp
  have pre : PairItems s.heap (ps.map Value.ref).toArray (fun j => ps.getD j 0) (rs.map fun x => (Value.ref x.2.1, x.2.2)) := by
    refine ⟨by simp [lr], fun j k v e => ?_⟩
    rw [List.getElem?_map] at e
    obtain ⟨x, hx, ex⟩ := Option.map_eq_some_iff.mp e
    obtain ⟨p, e1, o, ho, hc, n, hd⟩ := all j x hx
    have g : ps.getD j 0 = p := by rw [List.getD_eq_getElem?_getD, e1]; rfl
    refine ⟨by simp [e1], .inl ?_⟩
    cases ex
    show s.heap.IsTuple (ps.getD j 0) _
    rw [g]
    exact ⟨o, ho, hc, n, hd⟩
  obtain ⟨o, n, ho, hc, hd, hdat⟩ := seq
  have keys : ∀ x ∈ rs, (tupleKind (mixKind X.prog X.w)).is s.heap x.1 x.2.1 := by
    have go : ∀ {l : List (List Key × V)} {m : List (List Key × Addr × Value)}, KT H l m → ∀ x ∈ m, (tupleKind (mixKind X.prog X.w)).is s.heap x.1 x.2.1 := fun {l m} z => by
      induction z with
      | nil => exact fun x hx => nomatch hx
      | cons h t ih =>
        intro x hx
        rcases List.mem_cons.mp hx with e | hx
        · rw [e, ← h.1]
          exact key_of I.hok h.2.1
        · exact ih x hx
    exact go rel
  refine call_dict_pairsH (knd := tupleKind (mixKind X.prog X.w)) (ps := rs) (PairArg.list a _ _ _) (I.ok.hd calm) (by show X.A.units + 1 + 1 < cLine; omega) ⟨⟨o, n, ho, hc, hd, hdat⟩, pre⟩ ⟨by simp, fun i key v e => ?_⟩ (fun h' hk x hx => ?_) (by simp [lr]; exact len) fun h' tk made same => ?_
  · have e : (rs.map fun x => (Value.ref x.2.1, x.2.2))[i]? = some (key, v) := e
    rw [List.getElem?_map] at e
    obtain ⟨x, hx, ex⟩ := Option.map_eq_some_iff.mp e
    cases ex
    exact ⟨x.1, x.2.1, hx, rfl⟩
  · obtain ⟨o1, its1, n1, g1, g2, g3, g4⟩ := keys x hx
    exact ⟨o1, its1, n1, hk _ _ (Nat.ne_of_lt (Heap.lt_size g1)) (fun z => nomatch z) g1, g2, g3, g4⟩
  · have hm : (s.heap.objs.size == sysModules) = false := beq_eq_false_iff_ne.mpr (Nat.ne_of_gt I.big)
    have nw : H s.heap.objs.size = none := I.hok.fresh (Nat.le_refl _)
    have rel2 : KT H (mergeT [] kvs) (storedAllH [] rs) := KT.merge rel .nil
    rw [mergeT_nil nd] at rel2
    have up : KT (upd H s.heap.objs.size (.dT kvs)) kvs (storedAllH [] rs) := rel2.keeps fun b ys e => by rw [upd_ne (ne_of_none e nw)]; exact e
    obtain ⟨o2, es, ep, d1, d2, d3, d4, _, d5⟩ := made
    have size : kvs.length ≤ sizeLine := by rw [rel.length, lr]; exact len
    exact ⟨.ref s.heap.objs.size, upd H s.heap.objs.size (.dT kvs), I.laid (t' := tk) (fun b ob e => same b ob (fun z => nomatch z) e) (Nat.le_refl _) (show ObjOk X.prog X.w _ _ _ (.dT kvs) from ⟨size, hm, _, up, o2, es, ep, d1, d2, d3, d4, d5⟩), rfl, q _ nw⟩
end
/-! ### == of two such dicts of truth values -/
section
variable {prog : Program} {w : World} {κ : Type} [DecidableEq κ] {knd : HeapKind prog w κ} {A : Around} {E : Value → Shared → Prop} {s : Shared}
/-- whether xs are found in ys -/
def foundIn (ys : List (κ × Addr × Value)) (xs : List (κ × Addr × Value)) : Bool := xs.all fun x => match atKey ys x.1 with
  | some q => decide (x.2.2 = q.2)
  | none => false
theorem same_heap {nm : String} {a b : Addr} {xs ys : List (κ × Addr × Value)} {Q : Bool → Shared → Prop} (na : (a == sysModules) = false) (nb : (b == sysModules) = false) (da : s.heap.DictOfH knd a xs) (db : s.heap.DictOfH knd b ys)
    (room : knd.room A) (bx : ∀ x ∈ xs, ∃ c, x.2.2 = Value.bool c) (byy : ∀ y ∈ ys, ∃ c, y.2.2 = Value.bool c) (h : Q (decide (xs.length = ys.length) && foundIn ys xs) s) : wpAny (model prog w) A (Builtin.Dict.samePairs nm a b) Q E s := by
  obtain ⟨oa, ea, pa, ga, _, fa, la, ia, ua⟩ := da
  obtain ⟨ob, eb, pb, gb, _, fb, lb, ib, ub⟩ := db
  have sa := size_of_entries la
  have sb := size_of_entries lb
  unfold Builtin.Dict.samePairs Builtin.Dict.showsAll
  simp only [na, nb, Bool.false_eq_true, if_false]
  refine wpAny_bind (wpAny_pure (wpAny_bind (wpAny_pure (wpAny_bind (wpAny_dictEntries ga fa ?_)))))
  refine wpAny_bind (wpAny_dictEntries gb fb ?_)
  by_cases eq : xs.length = ys.length
  case neg =>
    rw [decide_eq_false eq, Bool.false_and] at h
    rw [if_pos (by simp only [bne_iff_ne, ne_eq]; omega)]
    exact wpAny_bind (wpAny_rule (wpAny_pure h))
  rw [decide_eq_true eq, Bool.true_and] at h
  rw [if_neg (by simp only [bne_iff_ne, ne_eq]; omega)]
  refine wpAny_bind (wpAny_dictEpoch ga fa (wpAny_bind ?_))
  rw [Std.Legacy.Range.forIn_eq_forIn_range']
  simp only [Std.Legacy.Range.size, Nat.sub_zero, Nat.add_sub_cancel, Nat.div_one]
  have nil_of : ∀ i, List.range' i (ea.size - i) = [] → ea.size ≤ i := fun i e => by
    have := congrArg List.length e
    rw [List.length_range'] at this
    simp at this
    omega
  refine wpAny_forIn_list _ (fun todo st s' => s' = s ∧ st = (none, ()) ∧ ∃ i, todo = List.range' i (ea.size - i) ∧ i ≤ ea.size ∧ foundIn ys xs = foundIn ys (xs.drop i)) _ ?_ ?_ _ _ ⟨rfl, rfl, 0, rfl, Nat.zero_le _, rfl⟩
  · rintro i todo st s' ⟨rfl, rfl, i', et, _, left⟩
    have lt : i' < ea.size := by
      apply Classical.byContradiction
      intro no
      rw [Nat.sub_eq_zero_of_le (by omega)] at et
      cases et
    have split : ea.size - i' = ea.size - (i' + 1) + 1 := by omega
    rw [split, List.range'_succ] at et
    obtain ⟨rfl, rfl⟩ := List.cons.inj et
    have ltx : i < xs.length := by omega
    have ex : xs[i]? = some xs[i] := List.getElem?_eq_getElem ltx
    have dr : xs.drop i = xs[i] :: xs.drop (i + 1) := List.drop_eq_getElem_cons ltx
    obtain ⟨⟨k, ka, v⟩, hx⟩ : ∃ x, xs[i] = x := ⟨_, rfl⟩
    rw [hx] at ex dr
    have here := entry_at la i
    rw [ex] at here
    have mem : (k, ka, v) ∈ xs := List.mem_of_getElem? ex
    obtain ⟨c, ev⟩ := bx _ mem
    cases (show v = Value.bool c from ev)
    have unf : foundIn ys (xs.drop i) = ((match atKey ys k with | some q => decide (Value.bool c = q.2) | none => false) && foundIn ys (xs.drop (i + 1))) := by
      rw [dr]
      rfl
    rw [unf] at left
    refine wpAny_bind (wpAny_dictEntries ga fa ?_)
    rw [here]
    show wpAny _ _ (holding [Value.ref ka, Value.bool c] _ >>= _) _ _ _
    refine wpAny_bind (wpAny_holding (wpAny_bind (wpAny_dictFind_heap (k := k) room (ia _ mem) gb fb lb ib ub (fun none => ?_) fun j p hj => ?_)))
    · rw [atKey_none_of_get none] at left
      rw [left] at h
      refine wpAny_pure ?_
      show wpAny _ _ (if (!false) = true then _ else _) _ _ _
      rw [if_pos (show (!false) = true from rfl)]
      exact wpAny_pure (wpAny_pure h)
    · obtain ⟨q1, q2⟩ := p
      rw [atKey_of_get ub hj] at left
      have there := entry_at lb j
      rw [hj] at there
      obtain ⟨d, ed⟩ := byy _ (List.mem_of_getElem? hj)
      refine wpAny_bind (wpAny_dictEntries gb fb ?_)
      rw [there]
      show wpAny _ _ (holding [q2] (eqBool (Value.bool c) q2)) _ _ _
      cases (show q2 = Value.bool d from ed)
      have left : foundIn ys xs = (decide (Value.bool c = Value.bool d) && foundIn ys (xs.drop (i + 1))) := left
      refine wpAny_holding (PySem.W.keq_flat (A := A) (s := s') (d := .bool c) (e := .bool d) (fun _ => .bool c) (fun _ => .bool d) prog w _ _ ?_)
      have ee : PyData.eqv (.bool c) (.bool d) = decide (Value.bool c = Value.bool d) := by cases c <;> cases d <;> rfl
      rw [ee]
      cases hcd : decide (Value.bool c = Value.bool d) with
      | false =>
        rw [hcd] at left
        have z : foundIn ys xs = false := left
        rw [z] at h
        show wpAny _ _ (if (!false) = true then _ else _) _ _ _
        rw [if_pos (show (!false) = true from rfl)]
        exact wpAny_pure (wpAny_pure h)
      | true =>
        rw [hcd] at left
        show wpAny _ _ (if (!true) = true then _ else _) _ _ _
        rw [if_neg (show ¬ (!true) = true from Bool.false_ne_true)]
        refine wpAny_bind (wpAny_dictEpoch ga fa ?_)
        rw [if_neg (by simp)]
        exact wpAny_pure ⟨rfl, rfl, i + 1, rfl, lt, left⟩
  · rintro st s' ⟨rfl, rfl, i, et, _, left⟩
    have ge := nil_of i et.symm
    rw [List.drop_eq_nil_of_le (by omega)] at left
    have z : foundIn ys xs = true := left
    rw [z] at h
    exact wpAny_pure h
end
section
variable {P : Program} {w : World} {H : Hp}
theorem found_all {ls : List (List Key × V)} {ys : List (List Key × Addr × Value)} (rb : KT H ls ys) {ks : List (List Key × V)} {xs : List (List Key × Addr × Value)} (ra : KT H ks xs) :
    (∀ p ∈ ks, ∃ c, p.2 = V.bl c) → foundIn ys xs = ks.all fun p => decide (valV ls p.1 = some p.2) := by
  induction ra with
  | nil => exact fun _ => rfl
  | @cons p q ps qs h t ih =>
    intro all
    obtain ⟨c, ec⟩ := all p (List.mem_cons_self ..)
    obtain ⟨h1, _, h3⟩ := h
    rw [ec] at h3
    have eq2 : q.2.2 = Value.bool c := h3
    have g := rb.val p.1
    rw [List.all_cons, ← ih fun r hr => all r (List.mem_cons_of_mem _ hr)]
    have unf : foundIn ys (q :: qs) = ((match atKey ys q.1 with | some z => decide (q.2.2 = z.2) | none => false) && foundIn ys qs) := rfl
    rw [unf, ← h1, ec, eq2]
    congr 1
    cases hv : valV ls p.1 with
    | none =>
      rw [hv] at g
      cases ha : atKey ys p.1 with
      | none => rfl
      | some z =>
        rw [ha] at g
        exact (show False from g).elim
    | some v =>
      rw [hv] at g
      cases ha : atKey ys p.1 with
      | none =>
        rw [ha] at g
        exact (show False from g).elim
      | some z =>
        rw [ha] at g
        have g : RelV v z.2 := g
        show decide (Value.bool c = z.2) = decide (some v = some (V.bl c))
        cases v with
        | bl d =>
          have e : z.2 = Value.bool d := g
          rw [e]
          cases c <;> cases d <;> rfl
        | _ =>
          have n1 : ¬ Value.bool c = z.2 := fun e => by
            rw [← e] at g
            first
              | exact (nomatch g)
              | (obtain ⟨_, g⟩ := g; exact (nomatch g))
              | (unfold RelV at g; cases g)
          rw [decide_eq_false n1]
          exact (decide_eq_false fun e => by cases e).symm
end
section
variable {X : Cx}
def rEqT : R2 := fun x y H Q => ∃ a b ks ls, x = .ref a ∧ y = .ref b ∧ H a = some (.dT ks) ∧ H b = some (.dT ls) ∧ (∀ p ∈ ks, ∃ c, p.2 = V.bl c) ∧ (∀ p ∈ ls, ∃ c, p.2 = V.bl c) ∧ Q (.bl (decide (ks.length = ls.length) && ks.all fun p => decide (valV ls p.1 = some p.2))) H
theorem bools_of {H : Hp} {ks : List (List Key × V)} {xs : List (List Key × Addr × Value)} (r : KT H ks xs) : (∀ p ∈ ks, ∃ c, p.2 = V.bl c) → ∀ x ∈ xs, ∃ c, x.2.2 = Value.bool c := by
  induction r with
  | nil => exact fun _ x hx => nomatch hx
  | @cons p q ps qs h t ih =>
    intro all x hx
    rcases List.mem_cons.mp hx with e | hx
    · obtain ⟨c, ec⟩ := all p (List.mem_cons_self ..)
      have h3 := h.2.2
      rw [ec] at h3
      exact ⟨c, by rw [e]; exact h3⟩
    · exact ih (fun r hr => all r (List.mem_cons_of_mem _ hr)) x hx
theorem op_eqT (room : X.A.units + 2 < cLine) : OpR X (compareOp .Eq) rEqT := by
  intro pins s σ H x y v u Q I rx ry h
  obtain ⟨a, b, ks, ls, rfl, rfl, ea, eb, bk, bl, q⟩ := h
  cases (show v = Value.ref a from rx)
  cases (show u = Value.ref b from ry)
  obtain ⟨_, na, xs, ra, d1⟩ := dt_of I.hok ea
  obtain ⟨_, nb, ys, rb, d2⟩ := dt_of I.hok eb
  refine wpAny_richCompare_same_room (op := .Eq) d1.typeIs d2.typeIs PySem.F.slot_dict_eq ?_ (by omega)
  refine wpAny_call_entry PySem.F.slot_dict_eq d1.typeIs PySem.F.entry_dict_eq ?_ (PySem.F.args_dict_eq_2 _ _)
  refine wpAny_bind (m := Builtin.Dict.dictSlotArgs "__eq__" ⟨[Value.ref a, Value.ref b], []⟩) ?_
  unfold Builtin.Dict.dictSlotArgs
  refine wpAny_bind (wpAny_notOrdered_dict d1.typeIs (wpAny_pure (wpAny_bind (wpAny_isInstance (T := "dict") d2.typeIs PySem.F.sub_dict_dict ?_))))
  simp only [Bool.not_true, Bool.false_eq_true, if_false]
  refine wpAny_bind (wpAny_pure (wpAny_bind (wpAny_pure (wpAny_bind ?_))))
  refine same_heap (knd := tupleKind (mixKind X.prog X.w)) na nb d1 d2 (by show X.A.units + 1 < cLine; omega) (bools_of ra bk) (bools_of rb bl) (wpAny_pure ⟨_, rfl, fun z => (nomatch z), ?_⟩)
  rw [found_all rb ra bk, ← ra.length, ← rb.length]
  exact fin_bl I q (by simp)
end
end Kv

set_option Elab.async false
set_option linter.all false
set_option maxRecDepth 100000
set_option maxHeartbeats 8000000
/-! Mathematics: all choices of names, what is told of each. -/
namespace Cm
open PySem PySem.Spec PyProof.Rows L2 Kv
theorem sub_of {l U : List Str} (pl : l.Pairwise leS) (pU : U.Pairwise leS) (nl : l.Nodup) (nU : U.Nodup) (h : ∀ x ∈ l, x ∈ U) : l.Sublist U := by
  have e : l = U.filter fun x => decide (x ∈ l) := ordered_ext pl (List.Pairwise.sublist List.filter_sublist pU) nl (List.Nodup.sublist List.filter_sublist nU) fun x =>
    ⟨fun hx => List.mem_filter.mpr ⟨h x hx, decide_eq_true hx⟩, fun hx => of_decide_eq_true (List.mem_filter.mp hx).2⟩
  rw [e]
  exact List.filter_sublist
theorem perm_sorted {l m : List Str} (p : l.Perm m) (hl : l.Pairwise leS) (hm : m.Pairwise leS) (nd : m.Nodup) : l = m := ordered_ext hl hm (p.nodup_iff.mpr nd) nd fun _ => p.mem_iff
theorem chs_nil : ∀ l : List Str, ∃ t, chs l = [] :: t
  | [] => ⟨[], rfl⟩
  | n :: l => ⟨_, rfl⟩
theorem chs_sub : ∀ {l r : List Str}, r ∈ chs l → r.Sublist l
  | [], r, h => by
    rw [List.mem_singleton.mp h]
    exact List.Sublist.refl []
  | n :: l, r, h => by
    unfold chs at h
    rcases List.mem_append.mp h with h | h
    · rcases List.mem_cons.mp h with h | h
      · rw [h]
        exact List.nil_sublist _
      · obtain ⟨s, h1, h2⟩ := List.mem_map.mp h
        rw [← h2]
        exact (chs_sub h1).cons_cons n
    · exact (chs_sub ((List.drop_sublist 1 _).subset h)).cons n
theorem sub_chs : ∀ {l r : List Str}, r.Sublist l → r ∈ chs l
  | [], r, h => by
    rw [List.sublist_nil.mp h]
    exact List.mem_singleton.mpr rfl
  | n :: l, r, h => by
    unfold chs
    cases h with
    | cons _ h =>
      have m := sub_chs h
      obtain ⟨t, ht⟩ := chs_nil l
      rw [ht] at m ⊢
      rcases List.mem_cons.mp m with e | e
      · rw [e]
        exact List.mem_append_left _ (List.mem_cons_self ..)
      · exact List.mem_append_right _ e
    | cons_cons _ h => exact List.mem_append_left _ (List.mem_cons_of_mem _ (List.mem_map.mpr ⟨_, sub_chs h, rfl⟩))
theorem chs_nodup : ∀ {l : List Str}, l.Nodup → (chs l).Nodup
  | [], _ => List.pairwise_singleton _ _
  | n :: l, nd => by
    obtain ⟨n1, n2⟩ := List.nodup_cons.mp nd
    have ih := chs_nodup n2
    obtain ⟨t, ht⟩ := chs_nil l
    have no : [] ∉ t := by
      rw [ht] at ih
      exact (List.nodup_cons.mp ih).1
    have nt : t.Nodup := by
      rw [ht] at ih
      exact (List.nodup_cons.mp ih).2
    unfold chs
    refine List.nodup_append.mpr ⟨List.nodup_cons.mpr ⟨fun m => ?_, ?_⟩, ?_, ?_⟩
    · obtain ⟨s, _, e⟩ := List.mem_map.mp m
      cases e
    · exact List.pairwise_map.mpr (List.Pairwise.imp (fun ne e => ne (List.cons.inj e).2) ih)
    · rw [ht]
      exact nt
    · intro a ha b hb e
      rw [ht] at hb
      have hb : b ∈ t := hb
      rw [← e] at hb
      rcases List.mem_cons.mp ha with z | z
      · rw [z] at hb
        exact no hb
      · obtain ⟨s, _, e2⟩ := List.mem_map.mp z
        have m : a ∈ chs l := by
          rw [ht]
          exact List.mem_cons_of_mem _ hb
        rw [← e2] at m
        exact n1 ((chs_sub m).subset (List.mem_cons_self ..))
/-- a choice as a key of a dict -/
def keyR (r : List Str) : List Key := r.map Sum.inr
theorem keyR_kV (r : List Str) : (keyR r).map kV = r.map V.str := by
  unfold keyR
  rw [List.map_map]
  rfl
theorem keyR_inj {r s : List Str} (h : keyR r = keyR s) : r = s := by
  have e : ∀ t : List Str, (keyR t).map (fun k : Key => match k with | .inr z => z | .inl _ => "") = t := fun t => by
    unfold keyR
    rw [List.map_map]
    exact (List.map_congr_left (fun _ _ => rfl)).trans (List.map_id t)
  rw [← e r, ← e s, h]
/-- what φ tells where just the names of r hold -/
def atRow (φ : (Str → Bool) → Bool) (r : List Str) : Bool := φ fun n => decide (n ∈ r)
def toldOf (ys : List Str) (φ : (Str → Bool) → Bool) : List (List Key × V) := (chs ys).map fun r => (keyR r, V.bl (atRow φ r))
theorem told_bools {ys : List Str} {φ : (Str → Bool) → Bool} : ∀ p ∈ toldOf ys φ, ∃ c, p.2 = V.bl c := fun p hp => by
  obtain ⟨r, _, e⟩ := List.mem_map.mp hp
  rw [← e]
  exact ⟨_, rfl⟩
theorem told_val {ys r : List Str} {φ : (Str → Bool) → Bool} (h : r ∈ chs ys) : valV (toldOf ys φ) (keyR r) = some (V.bl (atRow φ r)) := by
  unfold toldOf
  generalize chs ys = rs at h
  induction rs with
  | nil => cases h
  | cons s rs ih =>
    rw [List.map_cons]
    by_cases e : keyR s = keyR r
    · rw [valV_pos e, keyR_inj e]
    · rw [valV_neg e]
      refine ih ?_
      rcases List.mem_cons.mp h with z | z
      · rw [z] at e
        exact absurd rfl e
      · exact z
theorem told_keys {ys : List Str} {φ : (Str → Bool) → Bool} (nd : ys.Nodup) : ((toldOf ys φ).map Prod.fst).Nodup := by
  unfold toldOf
  rw [List.map_map]
  exact List.pairwise_map.mpr (List.Pairwise.imp (fun ne e => ne (keyR_inj e)) (chs_nodup nd))
/-- what φ tells hangs on ys alone -/
def Dep (φ : (Str → Bool) → Bool) (ys : List Str) : Prop := ∀ c d, (∀ n ∈ ys, c n = d n) → φ c = φ d
def Differs (φ : (Str → Bool) → Bool) (n : Str) : Prop := ∃ c, φ (Tab.upd c n true) ≠ φ (Tab.upd c n false)
theorem sem_dep : ∀ {t : Tr} {c d : Str → Bool}, (∀ n ∈ t.names, c n = d n) → t.sem c = t.sem d
  | .yes, _, _, _ => rfl
  | .no, _, _, _ => rfl
  | .test n, _, _, h => h n (List.mem_singleton.mpr rfl)
  | .not t, _, _, h => congrArg (fun b => !b) (sem_dep (t := t) h)
  | .bin o t u, c, d, h => by
    show o.fn (t.sem c) (u.sem c) = o.fn (t.sem d) (u.sem d)
    rw [sem_dep (t := t) fun n hn => h n (List.mem_append_left _ hn), sem_dep (t := u) fun n hn => h n (List.mem_append_right _ hn)]
theorem dep_tree {t : Tr} {ys : List Str} (h : ∀ n ∈ t.names, n ∈ ys) : Dep t.sem ys := fun _ _ e => sem_dep fun n hn => e n (h n hn)
theorem Dep.congr {φ : (Str → Bool) → Bool} {ys zs : List Str} (h : Dep φ ys) (s : ∀ n ∈ ys, n ∈ zs) : Dep φ zs := fun c d e => h c d fun n hn => e n (s n hn)
/-- the choices tell it all -/
theorem rows_all {φ ψ : (Str → Bool) → Bool} {ys : List Str} (dφ : Dep φ ys) (dψ : Dep ψ ys) : (∀ r ∈ chs ys, atRow φ r = atRow ψ r) ↔ ∀ c, φ c = ψ c := by
  constructor
  · intro h c
    have m : (ys.filter fun n => c n) ∈ chs ys := sub_chs List.filter_sublist
    have e : ∀ n ∈ ys, c n = decide (n ∈ ys.filter fun n => c n) := fun n hn => by
      cases hc : c n with
      | true => exact (decide_eq_true (List.mem_filter.mpr ⟨hn, hc⟩)).symm
      | false => exact (decide_eq_false fun z => Bool.false_ne_true (hc.symm.trans (List.mem_filter.mp z).2)).symm
    rw [dφ _ _ e, dψ _ _ e]
    exact h _ m
  · exact fun h r _ => h _
theorem told_same {φ ψ : (Str → Bool) → Bool} {ys : List Str} (dφ : Dep φ ys) (dψ : Dep ψ ys) :
    ((decide ((toldOf ys φ).length = (toldOf ys ψ).length) && (toldOf ys φ).all fun p => decide (valV (toldOf ys ψ) p.1 = some p.2)) = true) ↔ ∀ c, φ c = ψ c := by
  have len : (toldOf ys φ).length = (toldOf ys ψ).length := by
    unfold toldOf
    rw [List.length_map, List.length_map]
  rw [decide_eq_true len, Bool.true_and, List.all_eq_true, ← rows_all dφ dψ]
  constructor
  · intro h r hr
    have z := of_decide_eq_true (h (keyR r, V.bl (atRow φ r)) (List.mem_map.mpr ⟨r, hr, rfl⟩))
    rw [told_val hr] at z
    exact (V.bl.inj (Option.some.inj z)).symm
  · intro h p hp
    obtain ⟨r, hr, e⟩ := List.mem_map.mp hp
    rw [← e]
    refine decide_eq_true ?_
    rw [told_val hr, h r hr]
theorem differs_in {φ : (Str → Bool) → Bool} {ys : List Str} (d : Dep φ ys) {n : Str} (h : Differs φ n) : n ∈ ys := by
  obtain ⟨c, hc⟩ := h
  apply Classical.byContradiction
  intro no
  refine hc (d _ _ fun m hm => ?_)
  have ne : m ≠ n := fun z => no (z ▸ hm)
  rw [Tab.upd_ne ne, Tab.upd_ne ne]
/-- a choice with one name more -/
theorem row_more {ys r m : List Str} {n : Str} (sy : ys.Pairwise leS) (ny : ys.Nodup) (hr : r ∈ chs ys) (hn : n ∈ ys) (no : n ∉ r) (p : m.Perm (r ++ [n])) (sm : m.Pairwise leS) : m ∈ chs ys := by
  have sr := chs_sub hr
  refine sub_chs (sub_of sm sy (p.nodup_iff.mpr ?_) ny fun x hx => ?_)
  · refine List.nodup_append.mpr ⟨List.Nodup.sublist sr ny, List.pairwise_singleton _ _, fun a ha b hb e => ?_⟩
    rw [List.mem_singleton.mp hb] at e
    exact no (e ▸ ha)
  · rcases List.mem_append.mp (p.mem_iff.mp hx) with z | z
    · exact sr.subset z
    · rw [List.mem_singleton.mp z]
      exact hn
theorem at_more {φ : (Str → Bool) → Bool} {r m : List Str} {n : Str} (p : m.Perm (r ++ [n])) : atRow φ m = φ (Tab.upd (fun x => decide (x ∈ r)) n true) := by
  unfold atRow
  congr 1
  funext x
  have e : x ∈ m ↔ x ∈ r ∨ x = n := by
    rw [p.mem_iff, List.mem_append, List.mem_singleton]
  by_cases h : x = n
  · rw [h, Tab.upd_same]
    exact decide_eq_true (p.mem_iff.mpr (List.mem_append_right _ (List.mem_singleton.mpr rfl)))
  · rw [Tab.upd_ne h]
    by_cases q : x ∈ r
    · rw [decide_eq_true q, decide_eq_true (e.mpr (.inl q))]
    · rw [decide_eq_false q, decide_eq_false fun z => (e.mp z).elim q h]
theorem at_less {φ : (Str → Bool) → Bool} {r : List Str} {n : Str} (no : n ∉ r) : atRow φ r = φ (Tab.upd (fun x => decide (x ∈ r)) n false) := by
  have e : (fun x => decide (x ∈ r)) n = false := decide_eq_false no
  unfold atRow
  rw [← e, Tab.upd_self]
/-- a name makes a difference just if it does at some choice -/
theorem rows_differ {φ : (Str → Bool) → Bool} {ys : List Str} (d : Dep φ ys) (ny : ys.Nodup) {n : Str} :
    (((chs ys).filter fun r => decide (n ∉ r)).any fun r => !decide (atRow φ r = φ (Tab.upd (fun x => decide (x ∈ r)) n true))) = true ↔ Differs φ n := by
  rw [List.any_eq_true]
  constructor
  · rintro ⟨r, hr, h⟩
    have no := of_decide_eq_true (List.mem_filter.mp hr).2
    refine ⟨fun x => decide (x ∈ r), fun e => ?_⟩
    rw [at_less no, e, decide_eq_true rfl] at h
    cases h
  · rintro ⟨c, hc⟩
    have m : (ys.filter fun x => c x && decide (x ≠ n)) ∈ chs ys := sub_chs List.filter_sublist
    have no : n ∉ ys.filter fun x => c x && decide (x ≠ n) := fun z => by
      have := (List.mem_filter.mp z).2
      simp at this
    refine ⟨_, List.mem_filter.mpr ⟨m, decide_eq_true no⟩, ?_⟩
    have e : ∀ b, φ (Tab.upd (fun x => decide (x ∈ ys.filter fun x => c x && decide (x ≠ n))) n b) = φ (Tab.upd c n b) := fun b => by
      refine d _ _ fun x hx => ?_
      by_cases h : x = n
      · rw [h, Tab.upd_same, Tab.upd_same]
      · rw [Tab.upd_ne h, Tab.upd_ne h]
        cases hcx : c x with
        | true => exact decide_eq_true (List.mem_filter.mpr ⟨hx, by simp [hcx, h]⟩)
        | false =>
          refine decide_eq_false fun z => ?_
          have := (List.mem_filter.mp z).2
          rw [hcx] at this
          cases this
    rw [at_less no, e, e, decide_eq_false fun z => hc z.symm]
    rfl
end Cm

set_option Elab.async false
set_option linter.all false
set_option maxRecDepth 100000
set_option maxHeartbeats 8000000
namespace Cm
open PySem PySem.Spec PyProof.Rows L2 Kv
/-! ### what stays: tuples and instances -/
def Fixd : HO → Bool
  | .tup _ => true
  | .ins _ _ _ => true
  | _ => false
def Keeps (H H' : Hp) : Prop := ∀ b o, H b = some o → Fixd o = true → H' b = some o
theorem Keeps.refl (H : Hp) : Keeps H H := fun _ _ e _ => e
theorem Keeps.trans {H H1 H2 : Hp} (a : Keeps H H1) (b : Keeps H1 H2) : Keeps H H2 := fun c o e f => b c o (a c o e f) f
theorem Keeps.of {H H' : Hp} (s : Same H H') : Keeps H H' := fun c o e _ => s c o e
theorem Keeps.of2 {H H' : Hp} {p l : Addr} {n : Nat} (S : Spr H p l n) (s : Same2 p l H H') : Keeps H H' := fun c o e f => by
  obtain ⟨_, _, _, _, h1, h2, _⟩ := S
  refine s c o e (fun z => ?_) (fun z => ?_)
  · rw [z, h1] at e
    cases e
    cases f
  · rw [z, h2] at e
    cases e
    cases f
theorem Keeps.upd {H : Hp} {d : Addr} {o u : HO} (h : H d = some o) (f : Fixd o = false) : Keeps H (upd H d u) := fun c v e g => by
  have nc : c ≠ d := fun z => by
    rw [z, h] at e
    cases e
    rw [f] at g
    cases g
  rw [upd_ne nc]
  exact e
theorem SayAt.keeps {H H' : Hp} {C a : Addr} {ns : List Str} {t : Nat} (h : SayAt H C a ns t) (k : Keeps H H') : SayAt H' C a ns t := by
  obtain ⟨dx, kk, h1, h2⟩ := h
  exact ⟨dx, kk, k _ _ h1 rfl, k _ _ h2 rfl⟩
theorem IsSay.keeps {H H' : Hp} {C a : Addr} {U : List Str} {φ : (Str → Bool) → Bool} (h : IsSay H C a U φ) (k : Keeps H H') : IsSay H' C a U φ := by
  obtain ⟨ns, t, h1, h2⟩ := h
  exact ⟨ns, t, h1.keeps k, h2⟩
theorem TreeAt.keeps {H H' : Hp} (k : Keeps H H') {v : V} {t : Tr} (h : TreeAt H v t) : TreeAt H' v t := by
  induction h with
  | yes h => exact .yes (k _ _ h rfl)
  | no h => exact .no (k _ _ h rfl)
  | test h => exact .test (k _ _ h rfl)
  | not h _ ih => exact .not (k _ _ h rfl) ih
  | bin h _ _ ih ih' => exact .bin (k _ _ h rfl) ih ih'
theorem RowsAt.keeps {H H' : Hp} {vs : List V} {rs : List (List Str)} (h : RowsAt H vs rs) (k : Keeps H H') : RowsAt H' vs rs := h.keep fun a xs e => k a _ e rfl
theorem Spr.notp {H : Hp} {p l q : Addr} {n : Nat} {o : HO} (h : Spr H p l n) (hq : H q = some o) (no : ∀ xs, o ≠ .lst xs) : q ≠ p ∧ q ≠ l := by
  obtain ⟨_, _, _, _, h1, h2, _⟩ := h
  exact ⟨fun z => by rw [z, h1] at hq; exact no _ (Option.some.inj hq).symm, fun z => by rw [z, h2] at hq; exact no _ (Option.some.inj hq).symm⟩
theorem Dep.at {φ : (Str → Bool) → Bool} {ns : List Str} {C a : Addr} {H : Hp} (h : IsSay H C a ns φ) : Dep φ ns := fun c d e => by
  obtain ⟨xs, t, _, _, u, ev⟩ := h
  rw [← ev, ← ev]
  exact Tab.ev_congr fun n hn => e n (u n hn)
end Cm

set_option Elab.async false
set_option linter.all false
set_option maxRecDepth 100000
set_option maxHeartbeats 8000000
namespace Cm
open PySem PySem.Spec PyProof.Rows L2 Kv
def rTupK (K : PySem.W.Frag) : List V → Hp → VK → Prop := fun xs H Q => ∃ p ys, xs = [.ref p] ∧ ((SqL K H p ys ∧ ∀ l, H l = none → Q (.ref l) (upd H l (.tup ys))) ∨ (SqT K H p ys ∧ Q (.ref p) H))
def rStrS : List V → Hp → VK → Prop := fun xs H Q => ∃ a, xs = [.str a] ∧ Q (.str a) H
/-- pairs of a choice without n and the one with n -/
inductive MoreAt (H : Hp) (n : Str) : List V → List (List Str) → Prop
  | nil : MoreAt H n [] []
  | cons {b q m : Addr} {r z : List Str} {vs : List V} {rs : List (List Str)} (h : H b = some (.tup [.ref q, .ref m])) (h1 : H q = some (.tup (r.map V.str))) (h2 : H m = some (.tup (z.map V.str))) (p : z.Perm (r ++ [n])) (s : z.Pairwise leS) (t : MoreAt H n vs rs) : MoreAt H n (.ref b :: vs) (r :: rs)
theorem MoreAt.keep {H H' : Hp} {n : Str} {vs : List V} {rs : List (List Str)} (h : MoreAt H n vs rs) (k : ∀ a xs, H a = some (.tup xs) → H' a = some (.tup xs)) : MoreAt H' n vs rs := by
  induction h with
  | nil => exact .nil
  | cons h h1 h2 p s _ ih => exact .cons (k _ _ h) (k _ _ h1) (k _ _ h2) p s ih
theorem MoreAt.snoc {H : Hp} {n : Str} {vs : List V} {rs : List (List Str)} (h : MoreAt H n vs rs) {b q m : Addr} {r z : List Str} (g : H b = some (.tup [.ref q, .ref m])) (g1 : H q = some (.tup (r.map V.str))) (g2 : H m = some (.tup (z.map V.str))) (p : z.Perm (r ++ [n])) (s : z.Pairwise leS) : MoreAt H n (vs ++ [.ref b]) (rs ++ [r]) := by
  induction h with
  | nil => exact .cons g g1 g2 p s .nil
  | cons h h1 h2 p' s' _ ih => exact .cons h h1 h2 p' s' ih
theorem MoreAt.len {H : Hp} {n : Str} {vs : List V} {rs : List (List Str)} (h : MoreAt H n vs rs) : vs.length = rs.length := by
  induction h with
  | nil => rfl
  | cons _ _ _ _ _ _ ih => rw [List.length_cons, List.length_cons, ih]
theorem MoreAt.get {H : Hp} {n : Str} {vs : List V} {rs : List (List Str)} (h : MoreAt H n vs rs) : ∀ {i : Nat} {v : V}, vs[i]? = some v → ∃ (b q m : Addr) (r z : List Str), v = .ref b ∧ rs[i]? = some r ∧ H b = some (.tup [.ref q, .ref m]) ∧ H q = some (.tup (r.map V.str)) ∧ H m = some (.tup (z.map V.str)) ∧ z.Perm (r ++ [n]) ∧ z.Pairwise leS := by
  induction h with
  | nil =>
    intro i v e
    simp at e
  | @cons b q m r z vs rs h h1 h2 p s _ ih =>
    intro i v e
    cases i with
    | zero =>
      have e : V.ref b = v := by simpa using e
      exact ⟨b, q, m, r, z, e.symm, rfl, h, h1, h2, p, s⟩
    | succ i => exact ih (by simpa using e)
theorem cat_one {K : PySem.W.Frag} {H : Hp} {Q : VK} {q y : Addr} {r : List Str} {n : Str} (hq : SqT K H q (r.map V.str)) (hy : H y = some (.tup [.str n])) (len : r.length ≤ 100)
    (k : ∀ (x : Addr) (H' : Hp), Same H H' → SqT K H' x ((r ++ [n]).map V.str) → Q (.ref x) H') : rCatA K (.ref q) (.ref y) H Q := by
  have big : 300 ≤ sizeLine := by decide
  refine ⟨q, y, _, _, rfl, rfl, hq, SqT.of hy, by rw [List.length_map]; show _ + 1 ≤ _; omega, fun e => ?_, (fun _ e => nomatch e), fun _ _ p hp => ?_⟩
  · refine k y H (Same.refl H) ?_
    rw [List.map_append, e]
    exact SqT.of hy
  · refine k p _ (same_step (Same.refl H) hp) (SqT.of ?_)
    rw [upd_same, List.map_append]
    rfl
theorem not_bl (x y : Bool) : (!decide (V.bl x = V.bl y)) = !decide (x = y) := by cases x <;> cases y <;> rfl
def spTestsL (K : PySem.W.Frag) : Sp := fun vs H Q _ => ∃ (t d : Addr) (ns ys : List Str) (φ : (Str → Bool) → Bool), vs = [.ref t, .ref d] ∧ SqL K H t (ns.map V.str) ∧ H d = some (.dT (toldOf ys φ)) ∧ ys.Perm ns ∧ ys.Pairwise leS ∧ ns.Nodup ∧ ns.length ≤ 6 ∧ Dep φ ys ∧
  ∀ (L : Addr) (fs : List Str) (H' : Hp), Same H H' → H L = none → H' L = some (.lst (fs.map V.str)) → fs.Sublist ys → (∀ z, z ∈ fs ↔ Differs φ z) → Q (.ref L) H'
abbrev scRow : Scope := { kind := .function, names := [(".0", .local), ("_law_row", .local), ("tuple", .globalImplicit), ("sorted", .globalImplicit), ("_law_name", .cell)], isGenerator := false, isCoroutine := false }
abbrev nmTests : List Str := ["_law_names_here", "_law_told", "_law_found", "_law_name", "_law_pairs", "_law_one", "_law_row", "_law_more"]
section
variable {P : Program} {w : World} {K : PySem.W.Frag} {mg : Str → Option Value} {base : Heap}
theorem scTestsL : FnScope nmTests ["_law_names_here", "_law_told"] (defScope s_l_tests) := ⟨rfl, rfl, rfl, by decide +kernel, rfl, by decide +kernel, by decide +kernel⟩
theorem ok_testsL {f : Addr} {fd : FuncData} (mS : mg "sorted" = none) (mStr : mg "str" = none) (mT : mg "tuple" = none) (mA : mg "any" = none) (F : Fun K "_law_tests" "_law_tests" s_l_tests f fd) : FnOk P w K mg base CX0 1 f fd ["_law_names_here", "_law_told"] (spTestsL K) := by
  refine F.ok scTestsL (fun vs H Q E h => ?_) (fun cdv A outer s H vs Q E hr h => ?_)
  · obtain ⟨t, d, ns, ys, φ, rfl, _⟩ := h
    rfl
  · obtain ⟨t, d, ns, ys, φ, rfl, hT, hD, pm, sy, nn, l6, dep, k⟩ := h
    refine ⟨_, pss_cons (ps_set (i := 2) scTestsL.nd rfl (Or.inl rfl) (pe_lst pa_nil))
      (pss_cons (ps_for PassesOwn.never rfl (pi_list (pe_callB cr_sortedS (by rfl) mS (by decide +kernel) (pa_cons (pe_lc (own := [("_law_one", 5)]) (g := gName 5) (tt := tYes) (by rfl) scTestsL.nd (pi_list (pv 0))
          (blkOk_by (own := [("_law_one", 5)]) (N := nmTests) (sc := defScope s_l_tests) (by decide +kernel))
          (fun _ _ _ _ _ => pg_name (i := 5) scTestsL.nd rfl (Or.inl rfl)) (fun _ _ _ _ _ => pts_nil) (fun _ _ _ _ _ => pe_callTy SkE.call_str_str (by rfl) mStr (by decide +kernel) (pa_cons (pv 5) pa_nil))) pa_nil)))
        (pg_name (i := 3) scTestsL.nd rfl (Or.inr rfl))
        (pss_cons (ps_lock (ps_setLc (i := 4) (own := [("_law_row", 6)]) (g := gName 6) (tt := tTest (tOp (rIn K true) (tVar 3) (tVar 6)))
            (te := tTup (tCons (tVar 6) (tCons (tCB (rTupK K) (tCons (tCB (rSortedS K) (tCons (tLc (iTup K (tOp (rCatA K) (tVar 6) (tTup (tCons (tVar 3) tNil)))) (gName 5) tYes (tCB rStrS (tCons (tVar 5) tNil)) [5]) tNil)) tNil)) tNil)))
            (by rfl) scTestsL.nd (by rfl) (by rfl) (sw_true rfl rfl rfl (by decide +kernel)) (pi_keys (pv 1))
            (blkOk_by (own := [("_law_row", 6)]) (N := nmTests) (sc := defScope s_l_tests) (by decide +kernel))
            (fun _ _ _ _ _ => pg_name (i := 6) scTestsL.nd rfl (Or.inl rfl)) (fun _ _ _ _ _ => pts_one (pt_cmpR op_notIn_seq (pv 3) (pv 6) (by rfl)))
            (fun _ _ _ _ _ => pe_tup (pa_cons (pv 6) (pa_cons (pe_callTy call_tuple_of (by rfl) mT (by decide +kernel) (pa_cons (pe_callB cr_sortedS (by rfl) mS (by decide +kernel) (pa_cons (pe_lc (own := [("_law_one", 5)]) (g := gName 5) (tt := tYes) (by rfl) scTestsL.nd
              (pi_tup (pe_op op_catA (pv 6) (pe_tup (pa_cons (pv 3) pa_nil)))) (blkOk_by (own := [("_law_one", 5)]) (N := nmTests) (sc := scRow) (by decide +kernel))
              (fun _ _ _ _ _ => pg_name (i := 5) scTestsL.nd rfl (Or.inl rfl)) (fun _ _ _ _ _ => pts_nil) (fun _ _ _ _ _ => pe_callTy SkE.call_str_str (by rfl) mStr (by decide +kernel) (pa_cons (pv 5) pa_nil))) pa_nil)) pa_nil)) pa_nil)))))
        (pss_one (ps_if (pt_val (pe_callB (cr_any rfl) (by rfl) mA (by decide +kernel) (pa_cons (pe_lc (own := [("_law_row", 6), ("_law_more", 7)]) (g := gTup K 2 (gCons (gName 6) (gCons (gName 7) gNil))) (tt := tYes) (by rfl) scTestsL.nd (pi_list (pv 4))
            (blkOk_by (own := [("_law_row", 6), ("_law_more", 7)]) (N := nmTests) (sc := defScope s_l_tests) (by decide +kernel))
            (fun _ _ _ _ _ => pg_tup (by rfl) (pgs_cons (pg_name (i := 6) scTestsL.nd rfl (Or.inl rfl)) (pgs_cons (pg_name (i := 7) scTestsL.nd rfl (Or.inl rfl)) pgs_nil))) (fun _ _ _ _ _ => pts_nil)
            (fun _ _ _ _ _ => pe_cmpR op_ne (pe_dget (hu_of hr) (pv 1) (pv 6) (fun _ _ => rfl)) (pe_dget (hu_of hr) (pv 1) (pv 7) (fun _ _ => rfl)) (nomark _))) pa_nil)))
          (pss_one (ps_expr (pe_bm PySem.F.plainAttrs_list PySem.F.slot_list_append PySem.F.type_list_append mt_append (pv 2) (pa_cons (pv 3) pa_nil)))) pss_nil))))
      (pss_one (ps_ret (pv 2)))), ?_⟩
    have big : 300 ≤ sizeLine := by decide
    have ny : ys.Nodup := pm.nodup_iff.mpr nn
    have ly := pm.length_eq
    refine ⟨(by show 0 ≤ sizeLine; decide), fun L hL => ?_⟩
    have s1 : Same H (upd H L (.lst [])) := same_step (Same.refl H) hL
    have hL1 : upd H L (.lst []) L = some (.lst (([] : List Str).map V.str)) := upd_same
    generalize upd H L (.lst []) = H1 at *
    refine ⟨_, rfl, t, rfl, ⟨_, sqL_same hT s1⟩, fun D hD' => ?_⟩
    refine lc_list (K := K) (a := t) (xs := ns.map V.str) (fun i H' => Same H1 H' ∧ H' D = some (.lst ((ns.take i).map V.str))) ⟨same_step (Same.refl H1) hD', upd_same⟩ (fun i H' _ z => sqL_same (sqL_same hT s1) z.1) ?_ ?_
    · rintro i x H2 hx ⟨sH, hl⟩
      rw [List.getElem?_map] at hx
      obtain ⟨n, hn', rfl⟩ := Option.map_eq_some_iff.mp hx
      have hi := (List.getElem?_eq_some_iff.mp hn').1
      refine ⟨rfl, ?_⟩
      refine iteT (B := False) ?_
      rw [if_pos rfl]
      refine ⟨_, rfl, n, rfl, _, hl, ?_, same_over sH hD', ?_⟩
      · rw [List.length_map, List.length_take]
        omega
      · rw [upd_same, List.take_succ_eq_append_getElem hi, List.map_append]
        rw [List.getElem?_eq_getElem hi] at hn'
        rw [Option.some.inj hn']
        rfl
    · rintro H2 ⟨sH, hl⟩
      rw [List.length_map, List.take_length] at hl
      refine ⟨D, ns, rfl, SqL.of hl, by omega, fun zs R pz srt hR => ?_⟩
      have ez : zs = ys := perm_sorted (pz.trans pm.symm) (sorted_pw srt) sy ny
      subst ez
      refine ⟨R, rfl, ⟨_, SqL.of upd_same⟩, ?_⟩
      have s3 : Same H1 (upd H2 R (.lst (zs.map V.str))) := same_step sH hR
      have R3 : upd H2 R (.lst (zs.map V.str)) R = some (.lst (zs.map V.str)) := upd_same
      generalize upd H2 R (.lst (zs.map V.str)) = H3 at *
      refine for_list (xs := zs.map V.str) (fun i σ H' => Same H H' ∧ H' R = some (.lst (zs.map V.str)) ∧ ∃ (fs : List Str) (c3 c4 : Option V), σ = [some (.ref t), some (.ref d), some (.ref L), c3, c4, none, none, none] ∧ H' L = some (.lst (fs.map V.str)) ∧ fs.Sublist (zs.take i) ∧ ∀ z, z ∈ fs ↔ z ∈ zs.take i ∧ Differs φ z)
        ⟨fun b o e => s3 b o (s1 b o e), R3, [], none, none, rfl, s3 _ _ hL1, List.nil_sublist _, fun z => ⟨(fun h => by cases h), (fun h => by cases h.1)⟩⟩ (fun i σ H' _ z => SqL.of z.2.1) ?_ ?_
      · rintro i x σ H4 hx ⟨s4, R4, fs, c3, c4, rfl, hL4, sub, all⟩
        rw [List.getElem?_map] at hx
        obtain ⟨n, hn, rfl⟩ := Option.map_eq_some_iff.mp hx
        have hi := (List.getElem?_eq_some_iff.mp hn).1
        have mn : n ∈ zs := List.mem_of_getElem? hn
        have d4 := s4 _ _ hD
        have lr : ∀ r ∈ chs zs, r.length ≤ 6 := fun r hr => by
          have := chs_row zs r hr
          omega
        -- pairs, the dict locked
        refine ⟨d, .dT (toldOf zs φ), d4, trivial, fun od => ?_⟩
        have s45 : ∀ b o, H4 b = some o → b ≠ d → upd H4 d (.frz od (.dT (toldOf zs φ))) b = some o := fun b o e nb => by rw [upd_ne nb]; exact e
        have d5 : upd H4 d (.frz od (.dT (toldOf zs φ))) d = some (.frz od (.dT (toldOf zs φ))) := upd_same
        have back : ∀ {H' : Hp}, Same (upd H4 d (.frz od (.dT (toldOf zs φ)))) H' → Same H4 (upd H' d (.dT (toldOf zs φ))) := fun {H'} s b o e => by
          by_cases nb : b = d
          · rw [nb, upd_same]
            rw [nb, d4] at e
            exact e
          · rw [upd_ne nb]
            exact s b o (s45 b o e nb)
        generalize upd H4 d (.frz od (.dT (toldOf zs φ))) = H5 at *
        refine ⟨_, rfl, d, od, rfl, .inr ⟨_, d5, fun M hM => ?_⟩⟩
        refine lc_it walk_keysT (fun j H' => Same H5 H' ∧ ∃ us : List V, H' M = some (.lst us) ∧ MoreAt H' n us (((chs zs).take j).filter fun r => decide (n ∉ r))) ⟨same_step (Same.refl H5) hM, [], upd_same, .nil⟩ (fun j H' _ z => z.1 _ _ d5) ?_ ?_
        · rintro j v H6 H7 lj ⟨s6, us, hM6, ma⟩ ⟨rfl, key, val, q, e1, rfl, hq⟩
          unfold toldOf at e1
          rw [List.getElem?_map] at e1
          obtain ⟨r, hr, e2⟩ := Option.map_eq_some_iff.mp e1
          obtain ⟨rfl, _⟩ := Prod.mk.inj e2
          rw [keyR_kV] at hq
          have l6r := lr r (List.mem_of_getElem? hr)
          have lM : us.length ≤ 64 := by
            rw [ma.len]
            have h1 := List.length_filter_le (fun r => decide (n ∉ r)) ((chs zs).take j)
            rw [List.length_take, chs_len] at h1
            have h2 : 2 ^ zs.length ≤ 2 ^ 6 := Nat.pow_le_pow_right (by decide) (by omega)
            omega
          have tk := take_filter_succ (f := fun r : List Str => decide (n ∉ r)) hr
          refine ⟨rfl, _, rfl, _, rfl, q, _, rfl, .inr (SqT.of hq), rfl, flat_strs r, ?_⟩
          rw [inV_str]
          refine ⟨!decide (n ∈ r), rfl, ?_⟩
          by_cases hm : n ∈ r
          · rw [decide_eq_true hm]
            refine iteF ⟨s6, us, hM6, ?_⟩
            rw [tk, if_neg (by simp [hm]), List.append_nil]
            exact ma
          · rw [decide_eq_false hm]
            refine iteT ⟨_, rfl, _, rfl, _, rfl, (by show 1 ≤ sizeLine; decide), fun y hy => ?_⟩
            have s7 : Same H7 (upd H7 y (.tup [.str n])) := same_step (Same.refl H7) hy
            refine cat_one (SqT.of (s7 _ _ hq)) upd_same (by omega) fun x H8 s8 hx8 => ⟨x, rfl, ⟨_, hx8⟩, fun D2 hD2 => ?_⟩
            have s78 : Same H7 H8 := fun b o e => s8 b o (s7 b o e)
            refine lc_tup (K := K) (a := x) (xs := (r ++ [n]).map V.str) (fun i H' => Same H8 H' ∧ H' D2 = some (.lst (((r ++ [n]).take i).map V.str))) ⟨same_step (Same.refl H8) hD2, upd_same⟩ (fun i H' _ z => sqT_same hx8 z.1) ?_ ?_
            · rintro i' x' H9 hx' ⟨s9, hl9⟩
              rw [List.getElem?_map] at hx'
              obtain ⟨n', hn', rfl⟩ := Option.map_eq_some_iff.mp hx'
              have hi' := (List.getElem?_eq_some_iff.mp hn').1
              refine ⟨rfl, ?_⟩
              refine iteT (B := False) ?_
              rw [if_pos rfl]
              refine ⟨_, rfl, n', rfl, _, hl9, ?_, same_over s9 hD2, ?_⟩
              · rw [List.length_map, List.length_take, List.length_append]
                show min _ (_ + 1) < _
                omega
              · rw [upd_same, List.take_succ_eq_append_getElem hi', List.map_append]
                rw [List.getElem?_eq_getElem hi'] at hn'
                rw [Option.some.inj hn']
                rfl
            · rintro H9 ⟨s9, hl9⟩
              rw [List.length_map, List.take_length] at hl9
              refine ⟨D2, r ++ [n], rfl, SqL.of hl9, by rw [List.length_append]; show _ + 1 < _; omega, fun zz p pp srt' hp => ⟨p, _, rfl, .inl ⟨SqL.of upd_same, fun m hm' => ⟨(by show 2 ≤ sizeLine; decide), fun b hb => ?_⟩⟩⟩⟩
              have t1 : Same H7 (upd (upd H9 p (.lst (zz.map V.str))) m (.tup (zz.map V.str))) := same_step (same_step (fun b o e => s9 b o (s78 b o e)) hp) hm'
              have t2 : Same H7 (upd (upd (upd H9 p (.lst (zz.map V.str))) m (.tup (zz.map V.str))) b (.tup [.ref q, .ref m])) := same_step t1 hb
              have nmb : m ≠ b := fun z => by
                rw [← z, upd_same] at hb
                cases hb
              have hm9 : upd (upd (upd H9 p (.lst (zz.map V.str))) m (.tup (zz.map V.str))) b (.tup [.ref q, .ref m]) m = some (.tup (zz.map V.str)) := by rw [upd_ne nmb, upd_same]
              have hb9 : upd (upd (upd H9 p (.lst (zz.map V.str))) m (.tup (zz.map V.str))) b (.tup [.ref q, .ref m]) b = some (.tup [.ref q, .ref m]) := upd_same
              generalize upd (upd (upd H9 p (.lst (zz.map V.str))) m (.tup (zz.map V.str))) b (.tup [.ref q, .ref m]) = H10 at *
              have hM10 := t2 _ _ hM6
              have off : ∀ c xs, H10 c = some (.tup xs) → upd H10 M (.lst (us ++ [.ref b])) c = some (.tup xs) := fun c xs e => by
                have nc : c ≠ M := fun z => by
                  rw [z, hM10] at e
                  cases e
                rw [upd_ne nc]
                exact e
              refine ⟨us, hM10, by omega, same_over (fun c o e => t2 c o (s6 c o e)) hM, us ++ [.ref b], upd_same, ?_⟩
              rw [tk, if_pos (decide_eq_true hm)]
              exact ((ma.keep fun c xs e => t2 _ _ e).snoc hb9 (t2 _ _ hq) hm9 pp (sorted_pw srt')).keep off
        · rintro H6 ⟨s6, us, hM6, ma⟩
          have lt : (toldOf zs φ).length = (chs zs).length := by
            unfold toldOf
            rw [List.length_map]
          rw [lt, List.take_length] at ma
          have sB := back s6
          refine ⟨s6 _ _ d5, ?_⟩
          have nMd : M ≠ d := fun z => by
            rw [z, d5] at hM
            cases hM
          have hM7 : upd H6 d (.dT (toldOf zs φ)) M = some (.lst us) := by
            rw [upd_ne nMd]
            exact hM6
          have ma7 : MoreAt (upd H6 d (.dT (toldOf zs φ))) n us ((chs zs).filter fun r => decide (n ∉ r)) := ma.keep fun c xs e => by
            have nc : c ≠ d := fun z => by
              rw [z, s6 _ _ d5] at e
              cases e
            rw [upd_ne nc]
            exact e
          generalize upd H6 d (.dT (toldOf zs φ)) = H7 at *
          have d7 := sB _ _ d4
          -- if any(..)
          refine ⟨_, rfl, M, rfl, ⟨_, SqL.of hM7⟩, fun D3 hD3 => ?_⟩
          refine lc_list (K := K) (a := M) (xs := us) (fun j H' => Same H7 H' ∧ H' D3 = some (.lst (((((chs zs).filter fun r => decide (n ∉ r)).take j).map fun r => !decide (atRow φ r = φ (Tab.upd (fun x => decide (x ∈ r)) n true))).map V.bl))) ⟨same_step (Same.refl H7) hD3, upd_same⟩ (fun j H' _ z => SqL.of (z.1 _ _ hM7)) ?_ ?_
          · rintro j v H8 hv ⟨s8, hl8⟩
            obtain ⟨b, q, m, r, z, rfl, hr, hb, hq, hm, pz', sz'⟩ := ma7.get hv
            have lj := (List.getElem?_eq_some_iff.mp hr).1
            have mr := List.mem_filter.mp (List.mem_of_getElem? hr)
            have no := of_decide_eq_true mr.2
            have mz := row_more sy ny mr.1 mn no pz' sz'
            refine ⟨b, _, rfl, SqT.of (s8 _ _ hb), rfl, _, _, rfl, _, _, rfl, rfl, rfl, ?_⟩
            refine iteT (B := False) ?_
            rw [if_pos rfl]
            have g1 : DGet H8 d (.ref q) (some (V.bl (atRow φ r))) := by
              rw [← told_val mr.1]
              exact DGet.t (s8 _ _ d7) (by rw [keyR_kV]; exact s8 _ _ hq)
            have g2 : DGet H8 d (.ref m) (some (V.bl (atRow φ z))) := by
              rw [← told_val mz]
              exact DGet.t (s8 _ _ d7) (by rw [keyR_kV]; exact s8 _ _ hm)
            refine ⟨_, rfl, _, rfl, d, _, rfl, g1, _, rfl, _, rfl, d, _, rfl, g2, rfl, _, hl8, ?_, same_over s8 hD3, ?_⟩
            · rw [List.length_map, List.length_map, List.length_take]
              have h1 := List.length_filter_le (fun r => decide (n ∉ r)) (chs zs)
              rw [chs_len] at h1
              have h2 : 2 ^ zs.length ≤ 2 ^ 6 := Nat.pow_le_pow_right (by decide) (by omega)
              omega
            · rw [upd_same, not_bl, at_more pz', List.take_succ_eq_append_getElem lj, List.map_append, List.map_append]
              rw [List.getElem?_eq_getElem lj] at hr
              rw [Option.some.inj hr]
              rfl
          · rintro H8 ⟨s8, hl8⟩
            rw [ma7.len, List.take_length] at hl8
            refine ⟨D3, _, rfl, SqL.of hl8, _, rfl, ?_⟩
            rw [List.any_map]
            have rd := rows_differ (n := n) dep ny
            have s48 : Same H H8 := fun b o e => s8 b o (sB b o (s4 b o e))
            have hL8 := s8 _ _ (sB _ _ hL4)
            have tn : zs.take (i + 1) = zs.take i ++ [n] := by
              rw [List.take_succ_eq_append_getElem hi]
              rw [List.getElem?_eq_getElem hi] at hn
              rw [Option.some.inj hn]
            refine ite2 (fun yes => ?_) (fun no => ?_)
            · have df := rd.mp yes
              refine ⟨_, rfl, .inl ⟨rfl, _, SqL.of hL8⟩, _, rfl, L, _, _, rfl, rfl, hL8, ?_, ?_⟩
              · rw [List.length_map]
                have h1 := sub.length_le
                rw [List.length_take] at h1
                omega
              have kp : ∀ b o, H b = some o → upd H8 L (.lst (fs.map V.str ++ [V.str n])) b = some o := same_over s48 hL
              have nRL : R ≠ L := fun z => by
                rw [← z] at hL1
                have := sH _ _ hL1
                rw [hR] at this
                cases this
              refine ⟨kp, by rw [upd_ne nRL]; exact s8 _ _ (sB _ _ R4), fs ++ [n], _, _, rfl, by rw [upd_same, List.map_append]; rfl, ?_, fun z => ?_⟩
              · rw [tn]
                exact sub.append (List.Sublist.refl [n])
              · rw [tn, List.mem_append, List.mem_append, all z, List.mem_singleton]
                constructor
                · rintro (⟨h1, h2⟩ | h1)
                  · exact ⟨.inl h1, h2⟩
                  · rw [h1]
                    exact ⟨.inr rfl, df⟩
                · rintro ⟨h1 | h1, h2⟩
                  · exact .inl ⟨h1, h2⟩
                  · exact .inr h1
            · have nd : ¬ Differs φ n := fun z => by
                have := rd.mpr z
                exact no this
              refine ⟨s48, s8 _ _ (sB _ _ R4), fs, _, _, rfl, hL8, ?_, fun z => ?_⟩
              · rw [tn]
                exact sub.trans (List.sublist_append_left _ _)
              · rw [tn, List.mem_append, all z, List.mem_singleton]
                constructor
                · rintro ⟨h1, h2⟩
                  exact ⟨.inl h1, h2⟩
                · rintro ⟨h1 | h1, h2⟩
                  · exact ⟨h1, h2⟩
                  · rw [h1] at h2
                    exact absurd h2 nd
      · rintro σ H4 ⟨s4, R4, fs, c3, c4, rfl, hL4, sub, all⟩
        rw [List.length_map, List.take_length] at sub all
        refine ⟨_, rfl, k L fs H4 s4 hL hL4 sub fun z => ?_⟩
        rw [all z]
        exact ⟨fun h => h.2, fun h => ⟨differs_in dep h, h⟩⟩
end
end Cm

set_option Elab.async false
set_option linter.all false
set_option maxRecDepth 100000
set_option maxHeartbeats 8000000
namespace Cm
open PySem PySem.Spec PyProof.Rows L2 Kv
def forBody : Stmt → List Stmt
  | .For _ _ b _ _ => b
  | _ => []
theorem bool_of {b c : Bool} {p : Prop} (h : b = true ↔ p) (g : c = true ↔ p) : b = c := by
  cases b <;> cases c <;> first | rfl | exact absurd (g.mp rfl) (fun z => Bool.false_ne_true (h.mpr z)) | exact absurd (h.mp rfl) (fun z => Bool.false_ne_true (g.mpr z))
/-! ### says held against one another -/
theorem say_lookup {H : Hp} {C a dx : Addr} {U : List Str} {φ : (Str → Bool) → Bool} {fs : List (Str × V)} {m : Str} (h : IsSay H C a U φ) (e : H a = some (.ins C dx fs)) (n1 : m ≠ "_names") (n2 : m ≠ "_table") : fs.lookup m = none := by
  obtain ⟨ns, t, ⟨dx', k, h1, _⟩, _⟩ := h
  rw [h1] at e
  cases e
  unfold sayF
  rw [List.lookup_cons, beq_false_of_ne n1, List.lookup_cons, beq_false_of_ne n2]
  rfl
theorem notFirst_own (K : PySem.W.Frag) (C : Addr) : PySem.W.notFirst K C (.ref C) = true := by
  unfold PySem.W.notFirst
  simp
theorem notFirst_of {K : PySem.W.Frag} {C : Addr} {t : Value} (h : PySem.W.subIn K t (.ref C) = some false) : PySem.W.notFirst K C t = true := by
  unfold PySem.W.notFirst
  rw [h]
  simp
section
variable {P : Program} {w : World} {K : PySem.W.Frag} {mg : Str → Option Value} {base : Heap} {C : Addr}
theorem says_eq (S : Sy P w K mg base C) {H : Hp} {a b : Addr} {U V' : List Str} {φ ψ : (Str → Bool) → Bool} {Q : VK} {E : XK} (ha : IsSay H C a U φ) (oa : ∀ n ∈ U, isName n = true) (hb : IsSay H C b V' ψ) (ob : ∀ n ∈ V', isName n = true)
    (k : ∀ r : Bool, (r = true ↔ ∀ c, φ c = ψ c) → Q (.bl r) H) : rEqI K C (spEq K C) E (.ref a) (.ref b) H Q := by
  obtain ⟨dx, fs, h1⟩ := ha.at_
  obtain ⟨dy, gs, h2⟩ := hb.at_
  exact ⟨a, dx, fs, .ref C, rfl, h1, S.ty _ _ _ _ h2, notFirst_own K C, a, _, U, φ, rfl, ha, oa, .inl ⟨b, V', ψ, rfl, hb, ob, k⟩⟩
theorem says_ne (S : Sy P w K mg base C) {H : Hp} {a b : Addr} {U V' : List Str} {φ ψ : (Str → Bool) → Bool} {Q : VK} {E : XK} (ha : IsSay H C a U φ) (oa : ∀ n ∈ U, isName n = true) (hb : IsSay H C b V' ψ) (ob : ∀ n ∈ V', isName n = true)
    (k : ∀ r : Bool, (r = true ↔ ∀ c, φ c = ψ c) → Q (.bl (!r)) H) : rNeI K C (spEq K C) E (.ref a) (.ref b) H Q := by
  obtain ⟨dx, fs, h1⟩ := ha.at_
  obtain ⟨dy, gs, h2⟩ := hb.at_
  exact ⟨a, dx, fs, .ref C, rfl, h1, S.ty _ _ _ _ h2, notFirst_own K C, a, _, U, φ, rfl, ha, oa, .inl ⟨b, V', ψ, rfl, hb, ob, fun r i => ⟨r, rfl, k r i⟩⟩⟩
theorem says_no {H : Hp} {a : Addr} {y : V} {t : String} {U : List Str} {φ : (Str → Bool) → Bool} {Q : VK} {E : XK} (no : PySem.W.subIn K (.type t) (.ref C) = some false ∧ PySem.W.kitOne K (.type t) (.ref C) = some false) (ha : IsSay H C a U φ) (oa : ∀ n ∈ U, isName n = true) (ty : TyX K H y (.type t))
    (k : Q (.bl false) H) : rEqI K C (spEq K C) E (.ref a) y H Q := by
  obtain ⟨dx, fs, h1⟩ := ha.at_
  exact ⟨a, dx, fs, .type t, rfl, h1, ty, notFirst_of no.1, a, _, U, φ, rfl, ha, oa, .inr ⟨_, ty, no.2, k⟩⟩
end
end Cm

set_option Elab.async false
set_option linter.all false
set_option maxRecDepth 100000
set_option maxHeartbeats 8000000
namespace Cm
open PySem PySem.Spec PyProof.Rows L2 Kv
theorem cut_to {us : List V} {c : Int} (h : 0 ≤ c) : cutV us Option.none (some c) = us.take c.toNat := by
  unfold cutV
  have e1 : HT.sIx us.length 0 Option.none = 0 := rfl
  have e2 : HT.sIx us.length us.length (some c) = min c.toNat us.length := by
    show (if c < 0 then (c + (us.length : Int)).toNat else min c.toNat us.length) = _
    rw [if_neg (by omega)]
  rw [e1, e2, List.drop_zero, Nat.sub_zero]
  exact List.take_eq_take_min.symm
theorem rep_one (k : Nat) (x : V) : (List.replicate k [x]).flatten = List.replicate k x := by
  induction k with
  | zero => rfl
  | succ k ih =>
    rw [List.replicate_succ, List.flatten_cons, ih, List.replicate_succ]
    rfl
/-- a choice, a part of it once more, another name -/
def handedOf (r : List Str) (i j : Nat) : List Str := r ++ r.take i ++ List.replicate j ("other" : Str)
theorem handed_vals (r : List Str) {c e : Int} (h : 0 ≤ c) : r.map V.str ++ cutV (r.map V.str) Option.none (some c) ++ (List.replicate e.toNat [V.str "other"]).flatten = (handedOf r c.toNat e.toNat).map V.str := by
  unfold handedOf
  rw [cut_to h, rep_one, List.map_append, List.map_append, List.map_take, List.map_replicate]
theorem other_name : isName "other" = true := by decide +kernel
theorem other_no : ("other" : Str) ∉ menu := by decide +kernel
theorem handed_mem {r : List Str} {i j : Nat} {n : Str} (h : n ∈ handedOf r i j) : n ∈ r ∨ n = "other" := by
  unfold handedOf at h
  rcases List.mem_append.mp h with h | h
  · rcases List.mem_append.mp h with h | h
    · exact .inl h
    · exact .inl (List.mem_of_mem_take h)
  · exact .inr (List.mem_replicate.mp h).2
theorem mem_handed {r : List Str} {i j : Nat} {n : Str} (h : n ∈ r) : n ∈ handedOf r i j := List.mem_append_left _ (List.mem_append_left _ h)
theorem handed_tells {φ : (Str → Bool) → Bool} {ns r ys : List Str} {i j : Nat} (d : Dep φ ns) (mn : ∀ z ∈ ns, z ∈ menu) (p : ys.Perm (handedOf r i j)) : (φ fun n => decide (n ∈ ys)) = atRow φ r := by
  refine d _ _ fun n hn => ?_
  have e : n ∈ ys ↔ n ∈ r := by
    rw [p.mem_iff]
    refine ⟨fun h => ?_, mem_handed⟩
    rcases handed_mem h with z | z
    · exact z
    · exact absurd (z ▸ mn n hn) other_no
  by_cases h : n ∈ r
  · rw [decide_eq_true h, decide_eq_true (e.mpr h)]
  · rw [decide_eq_false h, decide_eq_false fun z => h (e.mp z)]
def spRight (C : Addr) : Sp := fun vs H Q _ => ∃ (p l a d t : Addr) (n : Nat) (ns ys : List Str) (φ : (Str → Bool) → Bool), vs = [.ref p, .ref a, .ref d, .ref t] ∧ Spr H p l n ∧ n + 2000 ≤ 1000000 ∧ IsSay H C a ns φ ∧ H d = some (.dT (toldOf ys φ)) ∧ H t = some (.lst (ns.map V.str)) ∧ t ≠ p ∧ t ≠ l ∧
  ys.Perm ns ∧ ys.Pairwise leS ∧ ns.Nodup ∧ ns.length ≤ 6 ∧ (∀ z ∈ ns, z ∈ menu) ∧
  ∀ (n' : Nat) (H' : Hp), n' ≤ n + 2000 → Spr H' p l n' → Same2 p l H H' → Q (.bl true) H'
abbrev nmRight : List Str := ["_law_spring_here", "_law_say_here", "_law_told", "_law_names_here", "_law_row", "_law_handed"]
section
variable {P : Program} {w : World} {K : PySem.W.Frag} {mg : Str → Option Value} {base : Heap} {C : Addr}
theorem scRight : FnScope nmRight ["_law_spring_here", "_law_say_here", "_law_told", "_law_names_here"] (defScope s_l_told_right) := ⟨rfl, rfl, rfl, by decide +kernel, rfl, by decide +kernel, by decide +kernel⟩
theorem ok_right {f : Addr} {fd : FuncData} (S : Sy P w K mg base C) (Ho : Mn P w K mg base C "holds" ["self", "true"] 2 (spHolds K C)) (Te : Mn P w K mg base C "tests" ["self"] 1 (spTests K C)) (Dr : Dn P w K mg base "_law_draw" ["_law_spring_here", "_law_many"] 1 spDraw)
    (Mi : Dn P w K mg base "_law_mixed" ["_law_spring_here", "_law_things"] 2 (spMixed K)) (Pi : Dn P w K mg base "_law_pick" ["_law_spring_here", "_law_things"] 2 (spPick K)) (Sa : Dn P w K mg base "_law_same" ["_law_found", "_law_due"] 2 (spSame K 1))
    (Tl : Dn P w K mg base "_law_tests" ["_law_names_here", "_law_told"] 1 (spTestsL K)) (mT : mg "tuple" = none) (F : Fun K "_law_told_right" "_law_told_right" s_l_told_right f fd) :
    FnOk P w K mg base CX0 3 f fd ["_law_spring_here", "_law_say_here", "_law_told", "_law_names_here"] (spRight C) := by
  obtain ⟨fH, fdH, mH, GH, bH⟩ := Ho.ex
  obtain ⟨fT, fdT, mTe, GT, bT⟩ := Te.ex
  obtain ⟨fD, fdD, GD, mD, kD, bD⟩ := Dr.ex
  obtain ⟨fM, fdM, GM, mM, kM, bM⟩ := Mi.ex
  obtain ⟨fP, fdP, GP, mP, kP, bP⟩ := Pi.ex
  obtain ⟨fS, fdS, GS, mSa, kS, bS⟩ := Sa.ex
  obtain ⟨fL, fdL, GL, mL, kL, bL⟩ := Tl.ex
  refine F.ok scRight (fun vs H Q E h => ?_) (fun cdv A outer s H vs Q E hr h => ?_)
  · obtain ⟨p, l, a, d, t, n, ns, ys, φ, rfl, _⟩ := h
    rfl
  · obtain ⟨p, l, a, d, t, n, ns, ys, φ, rfl, Sp0, hn, sa, hd, ht, tp, tl, pm, sy, nn, l6, mn, k⟩ := h
    have h1 : Room 1 (A.deeper (envOfC "_law_told_right" (defScope s_l_told_right) s.heap.objs.size f cdv)) := hr.mono (by decide)
    refine ⟨_, pss_cons (ps_lock (ps_for PassesOwn.never rfl (pi_keys (pv 2)) (pg_name (i := 4) scRight.nd rfl (Or.inl rfl))
        (pss_cons (ps_set (i := 5) scRight.nd rfl (Or.inl rfl) (pe_call GM hr (by rfl) mM kM bM .nil pass0 (pa_cons (pv 0) (pa_cons
          (pe_op op_cat (pe_op op_cat (pe_callTy call_list_of (by rfl) S.list (by decide +kernel) (pa_cons (pv 4) pa_nil))
              (pe_slice sl_list (pe_callTy call_list_of (by rfl) S.list (by decide +kernel) (pa_cons (pv 4) pa_nil)) po_none (po_some (pe_call GD h1 (by rfl) mD kD bD .nil pass0 (pa_cons (pv 0) (pa_cons pe_int pa_nil))))))
            (pe_op op_rep (pe_lst (pa_cons pe_str pa_nil)) (pe_call GD h1 (by rfl) mD kD bD .nil pass0 (pa_cons (pv 0) (pa_cons pe_int pa_nil))))) pa_nil))))
        (pss_one (ps_if (pt_not (pt_val (pe_call GS hr (by rfl) mSa kS bS .nil pass0 (pa_cons
            (pe_meth (pv 1) S.cl mH GH hr bH .nil pass0 (pa_cons (pe_call GP hr (by rfl) mP kP bP .nil pass0 (pa_cons (pv 0) (pa_cons (pe_lst (pa_cons (pv 5) (pa_cons (pe_callTy call_tuple_of (by rfl) mT (by decide +kernel) (pa_cons (pv 5) pa_nil)) pa_nil))) pa_nil))) pa_nil))
            (pa_cons (pe_dget (hu_of hr) (pv 2) (pv 4) (fun _ _ => rfl)) pa_nil))))) (pss_one (ps_ret pe_bl)) pss_nil)))))
      (pss_cons (ps_expr (pe_bm PySem.F.plainAttrs_list PySem.F.slot_list_append PySem.F.type_list_append mt_append (pe_meth0 (pv 1) S.cl mTe GT h1 bT .nil pass0) (pa_cons pe_str pa_nil)))
      (pss_one (ps_ret (pe_call GS hr (by rfl) mSa kS bS .nil pass0 (pa_cons (pe_meth0 (pv 1) S.cl mTe GT h1 bT .nil pass0) (pa_cons (pe_call GL h1 (by rfl) mL kL bL .nil pass0 (pa_cons (pv 3) (pa_cons (pv 2) pa_nil))) pa_nil)))))), ?_⟩
    have big : 300 ≤ sizeLine := by decide
    have ny : ys.Nodup := pm.nodup_iff.mpr nn
    have ly := pm.length_eq
    have dep : Dep φ ns := Dep.at sa
    have depy : Dep φ ys := dep.congr fun z hz => pm.mem_iff.mpr hz
    have dS := Sp0.notp hd (fun xs e => by cases e)
    have okn : ∀ z ∈ ns, isName z = true := fun z hz => menu_ok z (mn z hz)
    refine ⟨d, .dT (toldOf ys φ), hd, trivial, fun od => ?_⟩
    have S0 : Spr (upd H d (.frz od (.dT (toldOf ys φ)))) p l n := Sp0.off (H' := H) dS.1 dS.2
    have d0 : upd H d (.frz od (.dT (toldOf ys φ))) d = some (.frz od (.dT (toldOf ys φ))) := upd_same
    have k0 : Keeps H (upd H d (.frz od (.dT (toldOf ys φ)))) := Keeps.upd hd rfl
    have back : ∀ {H' : Hp}, Same2 p l (upd H d (.frz od (.dT (toldOf ys φ)))) H' → Same2 p l H (upd H' d (.dT (toldOf ys φ))) := fun {H'} s b o e n1 n2 => by
      by_cases nb : b = d
      · rw [nb, upd_same]
        rw [nb, hd] at e
        exact e
      · rw [upd_ne nb]
        exact s b o (by rw [upd_ne nb]; exact e) n1 n2
    generalize upd H d (.frz od (.dT (toldOf ys φ))) = H0 at *
    have sa0 := sa.keeps k0
    have lt : (toldOf ys φ).length = (chs ys).length := by
      unfold toldOf
      rw [List.length_map]
    have lc : (chs ys).length ≤ 64 := by
      rw [chs_len]
      exact Nat.le_trans (Nat.pow_le_pow_right (by decide) (show ys.length ≤ 6 by omega)) (by decide)
    refine ⟨_, rfl, d, od, rfl, .inr ⟨_, d0, ?_⟩⟩
    refine for_it walk_keysT (fun i σ H' => Same2 p l H0 H' ∧ ∃ (n' : Nat) (c4 c5 : Option V), σ = [some (.ref p), some (.ref a), some (.ref d), some (.ref t), c4, c5] ∧ n' ≤ n + 20 * i ∧ Spr H' p l n') ⟨Same2.refl p l H0, n, none, none, rfl, Nat.le_refl _, S0⟩ (fun i σ H' _ z => z.1 _ _ d0 dS.1 dS.2) ?_ ?_
    · rintro i x σ H1 H2 li ⟨s1, n1, c4, c5, rfl, hn1, S1⟩ ⟨rfl, key, val, q, e1, rfl, hq⟩
      rw [lt] at li
      unfold toldOf at e1
      rw [List.getElem?_map] at e1
      obtain ⟨r, hr, e2⟩ := Option.map_eq_some_iff.mp e1
      obtain ⟨rfl, _⟩ := Prod.mk.inj e2
      rw [keyR_kV] at hq
      have mr := List.mem_of_getElem? hr
      have l6r : r.length ≤ 6 := by
        have := chs_row ys r mr
        omega
      have qS := S1.notp hq (fun xs e => by cases e)
      -- list(row)
      refine ⟨_, rfl, _, rfl, q, _, rfl, .inr (SqT.of hq), fun a1 ha1 => ?_⟩
      have aS := S1.apart ha1
      have s2 : Same H2 (upd H2 a1 (.lst (r.map V.str))) := same_step (Same.refl H2) ha1
      have a2 : upd H2 a1 (.lst (r.map V.str)) a1 = some (.lst (r.map V.str)) := upd_same
      generalize upd H2 a1 (.lst (r.map V.str)) = H3 at *
      have S3 := S1.sameS s2
      -- list(row)[:draw]
      refine ⟨_, rfl, q, _, rfl, .inr (SqT.of (s2 _ _ hq)), fun b1 hb1 => ?_⟩
      have bS := S3.apart hb1
      have s3 : Same H3 (upd H3 b1 (.lst (r.map V.str))) := same_step (Same.refl H3) hb1
      have b2 : upd H3 b1 (.lst (r.map V.str)) b1 = some (.lst (r.map V.str)) := upd_same
      generalize upd H3 b1 (.lst (r.map V.str)) = H4 at *
      have S4 := S3.sameS s3
      refine ⟨_, rfl, p, l, n1, 2, rfl, S4, by omega, by decide, by decide, fun c H5 c0 c1 S5 s5 => ?_⟩
      have s5' : Same2 p l H4 H5 := s5
      refine ⟨c, rfl, b1, _, rfl, SqL.of (s5' _ _ b2 bS.1 bS.2), fun e he => ?_⟩
      have eS := S5.apart he
      have s6 : Same H5 (upd H5 e (.lst (cutV (r.map V.str) Option.none (some c)))) := same_step (Same.refl H5) he
      have e6 : upd H5 e (.lst (cutV (r.map V.str) Option.none (some c))) e = some (.lst (cutV (r.map V.str) Option.none (some c))) := upd_same
      generalize upd H5 e (.lst (cutV (r.map V.str) Option.none (some c))) = H6 at *
      have S6 := S5.sameS s6
      have a6 := s6 _ _ (s5' _ _ (s3 _ _ a2) aS.1 aS.2)
      have lcut := cutV_length (r.map V.str) Option.none (some c)
      rw [List.length_map] at lcut
      refine ⟨a1, e, _, _, rfl, rfl, a6, e6, by rw [List.length_map]; omega, fun g hg => ?_⟩
      have gS := S6.apart hg
      have s7 : Same H6 (upd H6 g (.lst (r.map V.str ++ cutV (r.map V.str) Option.none (some c)))) := same_step (Same.refl H6) hg
      have g7 : upd H6 g (.lst (r.map V.str ++ cutV (r.map V.str) Option.none (some c))) g = some (.lst (r.map V.str ++ cutV (r.map V.str) Option.none (some c))) := upd_same
      generalize upd H6 g (.lst (r.map V.str ++ cutV (r.map V.str) Option.none (some c))) = H7 at *
      have S7 := S6.sameS s7
      -- ["other"] * draw
      refine ⟨(by show 1 ≤ sizeLine; decide), fun o ho => ?_⟩
      have oS := S7.apart ho
      have s8 : Same H7 (upd H7 o (.lst [.str "other"])) := same_step (Same.refl H7) ho
      have o8 : upd H7 o (.lst [.str "other"]) o = some (.lst [.str "other"]) := upd_same
      generalize upd H7 o (.lst [.str "other"]) = H8 at *
      have S8 := S7.sameS s8
      refine ⟨_, rfl, p, l, n1 + 1, 2, rfl, S8, by omega, by decide, by decide, fun c' H9 c0' c1' S9 s9 => ?_⟩
      have s9' : Same2 p l H8 H9 := s9
      refine ⟨o, c', _, rfl, rfl, s9' _ _ o8 oS.1 oS.2, by omega, by omega, by show 1 * _ ≤ _; omega, fun g2 hg2 => ?_⟩
      have s10 : Same H9 (upd H9 g2 (.lst (List.replicate c'.toNat [V.str "other"]).flatten)) := same_step (Same.refl H9) hg2
      have g10 : upd H9 g2 (.lst (List.replicate c'.toNat [V.str "other"]).flatten) g2 = some (.lst (List.replicate c'.toNat [V.str "other"]).flatten) := upd_same
      generalize upd H9 g2 (.lst (List.replicate c'.toNat [V.str "other"]).flatten) = H10 at *
      have S10 := S9.sameS s10
      have gg := s10 _ _ (s9' _ _ (s8 _ _ g7) gS.1 gS.2)
      have lrep : (List.replicate c'.toNat [V.str "other"]).flatten.length ≤ 2 := by
        rw [rep_one, List.length_replicate]
        omega
      refine ⟨g, g2, _, _, rfl, rfl, gg, g10, by rw [List.length_append, List.length_map]; omega, fun z hz => ?_⟩
      rw [handed_vals r c0]
      have s11 : Same H10 (upd H10 z (.lst ((handedOf r c.toNat c'.toNat).map V.str))) := same_step (Same.refl H10) hz
      have z11 : upd H10 z (.lst ((handedOf r c.toNat c'.toNat).map V.str)) z = some (.lst ((handedOf r c.toNat c'.toNat).map V.str)) := upd_same
      generalize upd H10 z (.lst ((handedOf r c.toNat c'.toNat).map V.str)) = H11 at *
      have S11 := S10.sameS s11
      have lh : (handedOf r c.toNat c'.toNat).length ≤ 14 := by
        unfold handedOf
        rw [List.length_append, List.length_append, List.length_take, List.length_replicate]
        omega
      have okh : ∀ x ∈ handedOf r c.toNat c'.toNat, isName x = true := fun x hx => by
        rcases handed_mem hx with w' | w'
        · exact okn x (pm.mem_iff.mp ((chs_sub mr).subset w'))
        · rw [w']
          exact other_name
      have kA : Same2 p l H2 H11 := fun b o' e' n1' n2' => s11 _ _ (s10 _ _ (s9' _ _ (s8 _ _ (s7 _ _ (s6 _ _ (s5' _ _ (s3 _ _ (s2 _ _ e')) n1' n2')))) n1' n2'))
      refine ⟨p, l, z, n1 + 2, handedOf r c.toNat c'.toNat, rfl, S11, by omega, .inl (SqL.of z11), by omega, okh, fun Lm us H12 pu S12 nw hLm s12 => ?_⟩
      have LS := S11.apart nw
      -- pick of the list and a tuple of it
      have kA2 : Keeps H H12 := k0.trans ((Keeps.of2 S0 s1).trans (Keeps.of2 S1 (kA.trans s12)))
      obtain ⟨dx, fs, ha12⟩ := (sa.keeps kA2).at_
      have lk : fs.lookup ("holds" : Str) = none := say_lookup (sa.keeps kA2) ha12 (by decide) (by decide)
      refine ⟨_, rfl, a, dx, fs, rfl, ha12, lk, _, rfl, _, rfl, _, rfl, Lm, _, rfl, .inl ⟨SqL.of hLm, fun m hm => ?_⟩⟩
      have s13 : Same H12 (upd H12 m (.tup (us.map V.str))) := same_step (Same.refl H12) hm
      have m13 : upd H12 m (.tup (us.map V.str)) m = some (.tup (us.map V.str)) := upd_same
      generalize upd H12 m (.tup (us.map V.str)) = H13 at *
      have S13 := S12.sameS s13
      refine ⟨(by show 2 ≤ sizeLine; decide), fun b hb => ?_⟩
      have bS2 := S13.apart hb
      have s14 : Same H13 (upd H13 b (.lst [.ref Lm, .ref m])) := same_step (Same.refl H13) hb
      have b14 : upd H13 b (.lst [.ref Lm, .ref m]) b = some (.lst [.ref Lm, .ref m]) := upd_same
      generalize upd H13 b (.lst [.ref Lm, .ref m]) = H14 at *
      have S14 := S13.sameS s14
      refine ⟨p, l, b, n1 + 2 + (handedOf r c.toNat c'.toNat).length, _, rfl, S14, by omega, b14, (by show 0 < 2; decide), (by show 2 < 1000000; decide), bS2.1, bS2.2, fun j v H15 hj S15 s15 => ?_⟩
      have kB : Same2 p l H2 H15 := ((kA.trans s12).trans (Same2.of fun b o e => s14 b o (s13 b o e))).trans s15
      have mS := S13.notp m13 (fun xs e => by cases e)
      have hL15 := s15 _ _ (s14 _ _ (s13 _ _ hLm)) LS.1 LS.2
      have hm15 := s15 _ _ (s14 _ _ m13) mS.1 mS.2
      have sa15 : IsSay H15 C a ns φ := sa0.keeps ((Keeps.of2 S0 s1).trans (Keeps.of2 S1 kB))
      have oku : ∀ x ∈ us, isName x = true := fun x hx => okh x (pu.mem_iff.mp hx)
      have val : ∃ v', v = .ref v' ∧ (SqL K H15 v' (us.map V.str) ∨ SqT K H15 v' (us.map V.str)) := by
        match j, hj with
        | 0, hj =>
          have hj : V.ref Lm = v := by simpa using hj
          exact ⟨Lm, hj.symm, .inl (SqL.of hL15)⟩
        | 1, hj =>
          have hj : V.ref m = v := by simpa using hj
          exact ⟨m, hj.symm, .inr (SqT.of hm15)⟩
        | j + 2, hj => simp at hj
      obtain ⟨v', rfl, hv'⟩ := val
      have row : (φ fun n => decide (n ∈ us)) = atRow φ r := handed_tells dep mn pu
      refine ⟨a, v', ns, us, φ, rfl, sa15, hv', oku, fun H16 s16 => ?_⟩
      have q16 : H16 q = some (.tup (r.map V.str)) := s16 _ _ (kB _ _ hq qS.1 qS.2)
      have d16 : H16 d = some (.frz od (.dT (toldOf ys φ))) := s16 _ _ (kB _ _ (s1 _ _ d0 dS.1 dS.2) dS.1 dS.2)
      have g : DGet H16 d (.ref q) (some (V.bl (atRow φ r))) := by
        rw [← told_val mr]
        exact .inr ⟨_, keyR r, q, .inr ⟨od, d16⟩, rfl, by rw [keyR_kV]; exact q16, rfl⟩
      refine ⟨_, rfl, _, rfl, d, _, rfl, g, ?_⟩
      rw [row]
      refine ⟨_, _, rfl, .inl ⟨rfl, rfl, fun H17 s17 => ⟨_, rfl, ?_⟩⟩⟩
      rw [decide_eq_true rfl]
      refine iteF ?_
      refine ⟨(s1.trans kB).trans (Same2.of fun b o e => s17 b o (s16 b o e)), _, _, _, rfl, ?_, (S15.sameS s16).sameS s17⟩
      omega
    · rintro σ H1 ⟨s1, n1, c4, c5, rfl, hn1, S1⟩
      rw [lt] at hn1
      have sB := back s1
      refine ⟨s1 _ _ d0 dS.1 dS.2, ?_⟩
      have S2 : Spr (upd H1 d (.dT (toldOf ys φ))) p l n1 := S1.off (H' := H1) dS.1 dS.2
      generalize upd H1 d (.dT (toldOf ys φ)) = H2 at *
      have sa2 := sa.keeps (Keeps.of2 Sp0 sB)
      have hd2 := sB _ _ hd dS.1 dS.2
      have ht2 := sB _ _ ht tp tl
      obtain ⟨dx, fs, ha2⟩ := sa2.at_
      have lk : fs.lookup ("tests" : Str) = none := say_lookup sa2 ha2 (by decide) (by decide)
      refine ⟨_, rfl, a, dx, fs, rfl, ha2, lk, a, ns, φ, rfl, sa2, fun L fs1 H3 s3 nL hL nd1 _ iff1 => ⟨.inl ⟨rfl, _, SqL.of hL⟩, L, _, _, rfl, rfl, hL, ?_, ?_⟩⟩
      · rw [List.length_map]
        have := sub_len nd1 fun x hx => differs_in dep ((iff1 x).mp hx)
        omega
      have s4 : Same H2 (upd H3 L (.lst (fs1.map V.str ++ [V.str "more"]))) := same_over s3 nL
      generalize upd H3 L (.lst (fs1.map V.str ++ [V.str "more"])) = H4 at *
      have sa4 := sa2.same s4
      refine ⟨_, rfl, a, dx, fs, rfl, s4 _ _ ha2, lk, a, ns, φ, rfl, sa4, fun L' gs H5 s5 nL' hL' nd2 pw2 iff2 => ?_⟩
      have s25 : Same H2 H5 := fun b o e => s5 b o (s4 b o e)
      refine ⟨_, rfl, _, rfl, t, d, ns, ys, φ, rfl, SqL.of (s25 _ _ ht2), s25 _ _ hd2, pm, sy, nn, l6, depy, fun L'' hs H6 s6 nL'' hL'' sub iff3 => ?_⟩
      have e : gs = hs := ordered_ext pw2 (List.Pairwise.sublist sub sy) nd2 (List.Nodup.sublist sub ny) fun x => (iff2 x).trans (iff3 x).symm
      have fl : ∀ (zs : List Str), ∀ v ∈ zs.map V.str, flat2 v = true := fun zs v hv => by
        obtain ⟨z, _, e⟩ := List.mem_map.mp hv
        rw [← e]
        rfl
      refine ⟨_, _, rfl, .inr ⟨by decide, L', L'', _, _, rfl, rfl, s6 _ _ hL', hL'', fl gs, fl hs, ?_, fun H7 s7 => ?_⟩⟩
      · rw [List.length_map, e]
        have := sub.length_le
        omega
      · rw [e, decide_eq_true rfl]
        have s27 : Same H2 H7 := fun b o e => s7 b o (s6 b o (s25 b o e))
        refine k n1 H7 ?_ (S2.sameS s27) (sB.trans (Same2.of s27))
        omega
end
end Cm

set_option Elab.async false
set_option linter.all false
set_option maxRecDepth 100000
set_option maxHeartbeats 8000000
namespace Cm
open PySem PySem.Spec PyProof.Rows L2 Kv
/-- all that the law leans on -/
structure Lw (P : Program) (w : World) (K : PySem.W.Frag) (mg : Str → Option Value) (base : Heap) (C : Addr) : Prop where
  sy : Sy P w K mg base C
  sz : Sz P w K mg base C
  eq : On P w K mg base C "__eq__" ["self", "other"] 1 (spEq K C)
  hm : PySem.W.mroIn K C (.type "object") = some true
  hne : PySem.W.findIn K (.ref C) "__ne__" = some (some (.builtin "object.__ne__"))
  no : ∀ t ∈ (["NoneType", "bool", "int", "str", "list", "dict", "tuple"] : List String), PySem.W.subIn K (.type t) (.ref C) = some false ∧ PySem.W.kitOne K (.type t) (.ref C) = some false
  holds : Mn P w K mg base C "holds" ["self", "true"] 2 (spHolds K C)
  tests : Mn P w K mg base C "tests" ["self"] 1 (spTests K C)
  spring : Dn P w K mg base "_law_spring" ["_law_script"] 1 (spSpring K)
  draw : Dn P w K mg base "_law_draw" ["_law_spring_here", "_law_many"] 1 spDraw
  names : Dn P w K mg base "_law_names" ["_law_spring_here", "_law_many"] 2 (spNames K)
  tree : Dn P w K mg base "_law_tree" ["_law_spring_here", "_law_names_here", "_law_depth"] 6 (spTree K 3)
  say : Dn P w K mg base "_law_say" ["_law_tree_here"] 11 (spSay C 3)
  hold : Dn P w K mg base "_law_holds" ["_law_tree_here", "_law_true"] 4 (spHold K 3)
  choices : Dn P w K mg base "_law_choices" ["_law_names_here"] 1 (spChoices K)
  same : Dn P w K mg base "_law_same" ["_law_found", "_law_due"] 2 (spSame K 1)
  right : Dn P w K mg base "_law_told_right" ["_law_spring_here", "_law_say_here", "_law_told", "_law_names_here"] 3 (spRight C)
  range : mg "range" = none
  dict : mg "dict" = none
  any : mg "any" = none
section
variable {P : Program} {w : World} {K : PySem.W.Frag} {mg : Str → Option Value} {base : Heap} {C : Addr}
abbrev nmLaw : List Str := ["_law_script", "_law_spring_here", "_law_turn", "_law_names_here", "_law_trees", "_law_says", "_law_told", "_law_k", "_law_same_here", "_law_twin", "_law_found", "_law_one", "_law_tree_here", "_law_row", "_law_thing"]
theorem scLaw : FnScope nmLaw ["_law_script"] (defScope s_law) := ⟨rfl, rfl, rfl, by decide +kernel, rfl, by decide +kernel, by decide +kernel⟩
abbrev scTold : Scope := { kind := .function, names := [(".0", .local), ("_law_tree_here", .cell), ("dict", .globalImplicit), ("_law_choices", .globalImplicit), ("_law_names_here", .cell)], isGenerator := false, isCoroutine := false }
abbrev lawX (f : Addr) (cdv : Value) (A : Around) (outer : List Env) (s : Shared) (H : Hp) (E : XK) : Cx := (cxOf CX0 P w K mg base nmLaw "law" (defScope s_law) f cdv A outer s H E).nox
def midSt (a p : Addr) (c2 : Option V) (N T S D : Addr) (c7 c8 c9 c10 : Option V) : L2.St := [some (.ref a), some (.ref p), c2, some (.ref N), some (.ref T), some (.ref S), some (.ref D), c7, c8, c9, c10, none, none, none, none]
/-- a turn's things: names, trees, says, what is told -/
structure Mid (K : PySem.W.Frag) (C : Addr) (H : Hp) (N T S D : Addr) (ns ys : List Str) (t1 t2 : Tr) : Prop where
  nn : ns.Nodup
  mn : ∀ z ∈ ns, z ∈ menu
  l6 : ns.length ≤ 6
  pm : ys.Perm ns
  sy : ys.Pairwise leS
  hN : H N = some (.lst (ns.map V.str))
  hT : ∃ v1 v2, H T = some (.lst [v1, v2]) ∧ TreeAt H v1 t1
  d1 : t1.depth ≤ 3
  n1 : ∀ n ∈ t1.names, n ∈ ns
  n2 : ∀ n ∈ t2.names, n ∈ ns
  hS : ∃ x1 x2, H S = some (.lst [.ref x1, .ref x2]) ∧ IsSay H C x1 ns t1.sem ∧ IsSay H C x2 ns t2.sem
  hD : ∃ d1 d2, H D = some (.lst [.ref d1, .ref d2]) ∧ H d1 = some (.dT (toldOf ys t1.sem)) ∧ H d2 = some (.dT (toldOf ys t2.sem))
theorem law_rest (L : Lw P w K mg base C) {f : Addr} {cdv : Value} {A : Around} {outer : List Env} {s : Shared} {H : Hp} {E : XK} (hr : Room 11 (A.deeper (envOfC "law" (defScope s_law) s.heap.objs.size f cdv))) :
    ∃ R, PSs (lawX (P := P) (w := w) (K := K) (mg := mg) (base := base) f cdv A outer s H E) ((forBody ((defBody s_law).getD 1 (.Pass ⟨0, 0, 0, 0⟩))).drop 5) R ∧
      ∀ (Z : Ends) (a p N T S D : Addr) (c2 c7 c8 c9 c10 : Option V) (H1 : Hp) (ns ys : List Str) (t1 t2 : Tr), Mid K C H1 N T S D ns ys t1 t2 → (∀ c8 c9 c10 H', Same H1 H' → Z.nx (midSt a p c2 N T S D c7 c8 c9 c10) H') → R Z (midSt a p c2 N T S D c7 c8 c9 c10) H1 := by
  obtain ⟨g1, fd1, e1, f1, G1, b1⟩ := L.eq.ex
  obtain ⟨fS, fdS, GS, mS, kS, bS⟩ := L.say.ex
  obtain ⟨fM, fdM, GM, mM, kM, bM⟩ := L.same.ex
  have h1 : Room 1 (A.deeper (envOfC "law" (defScope s_law) s.heap.objs.size f cdv)) := hr.mono (by decide)
  have h2 : Room 2 (A.deeper (envOfC "law" (defScope s_law) s.heap.objs.size f cdv)) := hr.mono (by decide)
  have room : (A.deeper (envOfC "law" (defScope s_law) s.heap.objs.size f cdv)).units + 2 < cLine := by
    have := hr.un
    omega
  refine ⟨_, pss_cons (ps_par (i := 8) (j := 9) (by rfl) scLaw.nd rfl rfl (by decide) rfl rfl (pa_cons (pe_cmpR (op_eqT room) (pe_ix ix_list (pv 6) pe_int (fun _ _ => rfl)) (pe_ix ix_list (pv 6) pe_int (fun _ _ => rfl)) (nomark _))
        (pa_cons (pe_call GS hr (by rfl) mS kS bS .nil pass0 (pa_cons (pe_ix ix_list (pv 4) pe_int (fun _ _ => rfl)) pa_nil)) pa_nil)) (by rfl))
    (pss_cons (ps_set (i := 10) scLaw.nd rfl (Or.inl rfl) (pe_lst (pa_cons (pe_cmpR (op_eqI e1 f1 G1 h1 b1 pass0) (pe_ix ix_list (pv 5) pe_int (fun _ _ => rfl)) (pe_ix ix_list (pv 5) pe_int (fun _ _ => rfl)) (nomark _))
        (pa_cons (pe_cmpR (op_neI L.hm L.hne e1 f1 G1 h2 b1 pass0) (pe_ix ix_list (pv 5) pe_int (fun _ _ => rfl)) (pe_ix ix_list (pv 5) pe_int (fun _ _ => rfl)) (nomark _))
        (pa_cons (pe_cmpR (op_eqI e1 f1 G1 h1 b1 pass0) (pe_ix ix_list (pv 5) pe_int (fun _ _ => rfl)) (pv 9) (nomark _))
        (pa_cons (pe_cmpR (op_neI L.hm L.hne e1 f1 G1 h2 b1 pass0) (pe_ix ix_list (pv 5) pe_int (fun _ _ => rfl)) (pv 9) (nomark _)) pa_nil))))))
    (pss_cons (ps_if (pt_not (pt_val (pe_call GM h2 (by rfl) mM kM bM .nil pass0 (pa_cons (pv 10) (pa_cons (pe_lst (pa_cons (pv 8) (pa_cons (pe_not (pv 8)) (pa_cons pe_bl (pa_cons pe_bl pa_nil))))) pa_nil))))) (pss_one (ps_ret pe_bl)) pss_nil)
    (pss_one (ps_if (pt_val (pe_callB (cr_any rfl) (by rfl) L.any (by decide +kernel) (pa_cons (pe_lc (own := [("_law_thing", 14)]) (g := gName 14) (tt := tYes) (te := tOp (rEqI K C (spEq K C) E0) (tOp (rIxL K) (tVar 5) (tC (.int 0))) (tVar 14)) (by rfl) scLaw.nd
          (pi_list (pe_lst (pa_cons pe_non (pa_cons pe_bl (pa_cons pe_int (pa_cons pe_str (pa_cons (pe_lst pa_nil) (pa_cons (pv 3) (pa_cons (pe_ix ix_list (pv 6) pe_int (fun _ _ => rfl)) pa_nil)))))))))
          (blkOk_by (own := [("_law_thing", 14)]) (N := nmLaw) (sc := defScope s_law) (by decide +kernel))
          (fun _ _ _ _ _ => pg_name (i := 14) scLaw.nd rfl (Or.inl rfl)) (fun _ _ _ _ _ => pts_nil) (fun _ _ _ _ _ => pe_cmpR (op_eqI e1 f1 G1 h1 b1 pass0) (pe_ix ix_list (pv 5) pe_int (fun _ _ => rfl)) (pv 14) (nomark _))) pa_nil))) (pss_one (ps_ret pe_bl)) pss_nil)))), ?_⟩
  rintro Z a p N T S D c2 c7 c8 c9 c10 H1 ns ys t1 t2 M k
  obtain ⟨v1, v2, hT, T1⟩ := M.hT
  obtain ⟨x1, x2, hS, I1, I2⟩ := M.hS
  obtain ⟨d1, d2, hD, hd1, hd2⟩ := M.hD
  have okn : ∀ n ∈ ns, isName n = true := fun z hz => menu_ok z (M.mn z hz)
  have dep1 : Dep t1.sem ys := (dep_tree M.n1).congr fun z hz => M.pm.mem_iff.mpr hz
  have dep2 : Dep t2.sem ys := (dep_tree M.n2).congr fun z hz => M.pm.mem_iff.mpr hz
  refine ⟨_, rfl, D, _, _, _, rfl, rfl, SqL.of hD, at_of (j := 0) rfl rfl, _, rfl, D, _, _, _, rfl, rfl, SqL.of hD, at_of (j := 1) rfl rfl, d1, d2, _, _, rfl, rfl, hd1, hd2, told_bools, told_bools, ?_⟩
  have same := told_same dep1 dep2
  generalize (decide ((toldOf ys t1.sem).length = (toldOf ys t2.sem).length) && (toldOf ys t1.sem).all fun p => decide (valV (toldOf ys t2.sem) p.1 = some p.2)) = sm at *
  refine ⟨_, rfl, T, _, _, _, rfl, rfl, SqL.of hT, at_of (j := 0) rfl rfl, v1, t1, ns, rfl, T1, M.d1, M.n1, okn, M.l6, fun x H2 s2 nx I3 => ⟨_, _, rfl, ?_⟩⟩
  have hS2 := s2 _ _ hS
  have J1 := I1.same s2
  have J2 := I2.same s2
  refine ⟨_, rfl, S, _, _, _, rfl, rfl, SqL.of hS2, at_of (j := 0) rfl rfl, _, rfl, S, _, _, _, rfl, rfl, SqL.of hS2, at_of (j := 1) rfl rfl, ?_⟩
  refine says_eq L.sy J1 okn J2 okn fun r1 q1 => ?_
  refine ⟨_, rfl, S, _, _, _, rfl, rfl, SqL.of hS2, at_of (j := 0) rfl rfl, _, rfl, S, _, _, _, rfl, rfl, SqL.of hS2, at_of (j := 1) rfl rfl, ?_⟩
  refine says_ne L.sy J1 okn J2 okn fun r2 q2 => ?_
  refine ⟨_, rfl, S, _, _, _, rfl, rfl, SqL.of hS2, at_of (j := 0) rfl rfl, _, rfl, ?_⟩
  refine says_eq L.sy J1 okn I3 okn fun r3 q3 => ?_
  refine ⟨_, rfl, S, _, _, _, rfl, rfl, SqL.of hS2, at_of (j := 0) rfl rfl, _, rfl, ?_⟩
  refine says_ne L.sy J1 okn I3 okn fun r4 q4 => ?_
  refine ⟨(by show 4 ≤ sizeLine; decide), fun F hF => ?_⟩
  rw [bool_of q1 same, bool_of q2 same, q3.mpr fun _ => rfl, q4.mpr fun _ => rfl]
  have s3 : Same H2 (upd H2 F (.lst [.bl sm, .bl (!sm), .bl true, .bl (!true)])) := same_step (Same.refl H2) hF
  have F3 : upd H2 F (.lst [.bl sm, .bl (!sm), .bl true, .bl (!true)]) F = some (.lst [.bl sm, .bl (!sm), .bl true, .bl (!true)]) := upd_same
  generalize upd H2 F (.lst [.bl sm, .bl (!sm), .bl true, .bl (!true)]) = H3 at *
  refine ⟨_, rfl, _, rfl, _, rfl, _, rfl, (by show 4 ≤ sizeLine; decide), fun G hG => ?_⟩
  have s4 : Same H3 (upd H3 G (.lst [.bl sm, .bl (!sm), .bl true, .bl false])) := same_step (Same.refl H3) hG
  have fl : ∀ (b1 b2 b3 b4 : Bool), ∀ v ∈ ([.bl b1, .bl b2, .bl b3, .bl b4] : List V), flat2 v = true := fun b1 b2 b3 b4 v hv => by
    simp only [List.mem_cons, List.not_mem_nil, or_false] at hv
    rcases hv with rfl | rfl | rfl | rfl <;> rfl
  refine ⟨_, _, rfl, .inr ⟨by decide, F, G, _, _, rfl, rfl, s4 _ _ F3, upd_same, fl _ _ _ _, fl _ _ _ _, (by show 4 ≤ 1000; decide), fun H5 s5 => ⟨_, rfl, ?_⟩⟩⟩
  rw [show decide (([.bl sm, .bl (!sm), .bl true, .bl (!true)] : List V) = [.bl sm, .bl (!sm), .bl true, .bl false]) = true from decide_eq_true rfl]
  refine iteF ?_
  have s15 : Same H1 H5 := fun b o e => s5 b o (s4 b o (s3 b o (s2 b o e)))
  refine ⟨(by show 0 ≤ sizeLine; decide), fun e he => ?_⟩
  have s6 : Same H5 (upd H5 e (.lst [])) := same_step (Same.refl H5) he
  have e6 : upd H5 e (.lst []) e = some (.lst []) := upd_same
  generalize upd H5 e (.lst []) = H6 at *
  have s16 : Same H1 H6 := fun b o z => s6 b o (s15 b o z)
  refine ⟨_, rfl, _, rfl, D, _, _, _, rfl, rfl, SqL.of (s16 _ _ hD), at_of (j := 0) rfl rfl, (by show 7 ≤ sizeLine; decide), fun W hW => ⟨W, rfl, ⟨_, SqL.of upd_same⟩, fun Y hY => ?_⟩⟩
  have s7 : Same H6 (upd H6 W (.lst [.non, .bl true, .int 1, .str "a", .ref e, .ref N, .ref d1])) := same_step (Same.refl H6) hW
  have W7 : upd H6 W (.lst [.non, .bl true, .int 1, .str "a", .ref e, .ref N, .ref d1]) W = some (.lst [.non, .bl true, .int 1, .str "a", .ref e, .ref N, .ref d1]) := upd_same
  generalize upd H6 W (.lst [.non, .bl true, .int 1, .str "a", .ref e, .ref N, .ref d1]) = H7 at *
  have s17 : Same H1 H7 := fun b o z => s7 b o (s16 b o z)
  refine lc_list (K := K) (a := W) (xs := [.non, .bl true, .int 1, .str "a", .ref e, .ref N, .ref d1]) (fun i H' => Same H7 H' ∧ H' Y = some (.lst ((List.replicate i false).map V.bl))) ⟨same_step (Same.refl H7) hY, upd_same⟩ (fun i H' _ z => SqL.of (z.1 _ _ W7)) ?_ ?_
  · rintro i x' H8 hx ⟨s8, hl⟩
    have s18 : Same H1 H8 := fun b o z => s8 b o (s17 b o z)
    have ty : ∃ t ∈ (["NoneType", "bool", "int", "str", "list", "dict", "tuple"] : List String), TyX K H8 x' (.type t) := by
      match i, hx with
      | 0, hx => cases (show V.non = x' by simpa using hx); exact ⟨"NoneType", by simp, .base .non⟩
      | 1, hx => cases (show V.bl true = x' by simpa using hx); exact ⟨"bool", by simp, .base (.bl _)⟩
      | 2, hx => cases (show V.int 1 = x' by simpa using hx); exact ⟨"int", by simp, .base (.int _)⟩
      | 3, hx => cases (show V.str "a" = x' by simpa using hx); exact ⟨"str", by simp, .base (.str _)⟩
      | 4, hx => cases (show V.ref e = x' by simpa using hx); exact ⟨"list", by simp, .base (.lst (s8 _ _ (s7 _ _ e6)))⟩
      | 5, hx => cases (show V.ref N = x' by simpa using hx); exact ⟨"list", by simp, .base (.lst (s18 _ _ M.hN))⟩
      | 6, hx => cases (show V.ref d1 = x' by simpa using hx); exact ⟨"dict", by simp, .base (.dT (s18 _ _ hd1))⟩
      | i + 7, hx => simp at hx
    obtain ⟨t, mt, ty⟩ := ty
    have li := (List.getElem?_eq_some_iff.mp hx).1
    refine ⟨rfl, ?_⟩
    refine iteT (B := False) ?_
    rw [if_pos rfl]
    refine ⟨_, rfl, S, _, _, _, rfl, rfl, SqL.of (s18 _ _ hS), at_of (j := 0) rfl rfl, _, rfl, ?_⟩
    refine says_no (L.no t mt) (I1.same s18) okn ty ⟨_, hl, ?_, same_over s8 hY, ?_⟩
    · rw [List.length_map, List.length_replicate]
      have : 8 ≤ sizeLine := by decide
      have : i < 7 := li
      omega
    · rw [upd_same, List.replicate_succ', List.map_append]
      rfl
  · rintro H8 ⟨s8, hl⟩
    refine ⟨Y, List.replicate 7 false, rfl, SqL.of hl, _, rfl, ?_⟩
    refine iteF ?_
    exact k _ _ _ H8 fun b o z => s8 b o (s17 b o z)
end
end Cm

set_option Elab.async false
set_option linter.all false
set_option maxRecDepth 100000
set_option maxHeartbeats 8000000
namespace Cm
open PySem PySem.Spec PyProof.Rows L2 Kv
theorem drop_split {α : Type} (l : List α) (n : Nat) : l = l.take n ++ l.drop n := (List.take_append_drop n l).symm
theorem say_off {H : Hp} {C x M : Addr} {U : List Str} {φ : (Str → Bool) → Bool} {xs : List V} {o : HO} (h : IsSay H C x U φ) (e : H M = some (.lst xs)) : IsSay (upd H M o) C x U φ := h.keeps (Keeps.upd e rfl)
section
variable {P : Program} {w : World} {K : PySem.W.Frag} {mg : Str → Option Value} {base : Heap} {C : Addr}
theorem ok_law (L : Lw P w K mg base C) {f : Addr} {fd : FuncData} (F : Fun K "law" "law" s_law f fd) : FnOk P w K mg base CX0 12 f fd ["_law_script"] (spLaw K) := by
  obtain ⟨fG, fdG, GG, mG, kG, bG⟩ := L.spring.ex
  obtain ⟨fD, fdD, GD, mD, kD, bD⟩ := L.draw.ex
  obtain ⟨fN, fdN, GN, mN, kN, bN⟩ := L.names.ex
  obtain ⟨fT, fdT, GT, mT, kT, bT⟩ := L.tree.ex
  obtain ⟨fS, fdS, GS, mS, kS, bS⟩ := L.say.ex
  obtain ⟨fH, fdH, GH, mH, kH, bH⟩ := L.hold.ex
  obtain ⟨fC, fdC, GC, mC, kC, bC⟩ := L.choices.ex
  obtain ⟨fR, fdR, GR, mR, kR, bR⟩ := L.right.ex
  obtain ⟨g1, fd1, e1, f1, G1, b1⟩ := L.eq.ex
  obtain ⟨mc2, p2, g2, fd2, M2, G2, b2⟩ := L.sz.test.ex
  obtain ⟨mc3, p3, g3, fd3, M3, G3, b3⟩ := L.sz.yes.ex
  obtain ⟨mc4, p4, g4, fd4, M4, G4, b4⟩ := L.sz.no.ex
  obtain ⟨g5, fd5, A5, f5, G5, b5⟩ := L.sz.or.ex
  obtain ⟨g6, fd6, A6, f6, G6, b6⟩ := L.sz.and.ex
  obtain ⟨g7, fd7, A7, f7, G7, b7⟩ := L.sz.inv.ex
  obtain ⟨f8, fd8, m8, G8, b8⟩ := L.tests.ex
  obtain ⟨f9, fd9, m9, G9, b9⟩ := L.holds.ex
  refine F.ok scLaw (fun vs H Q E h => ?_) (fun cdv A outer s H vs Q E hr h => ?_)
  · obtain ⟨a, ns, rfl, _⟩ := h
    rfl
  · obtain ⟨a, ns, rfl, hA, h63, k⟩ := h
    have r1 : Room 1 (A.deeper (envOfC "law" (defScope s_law) s.heap.objs.size f cdv)) := hr.mono (by decide)
    have r2 : Room 2 (A.deeper (envOfC "law" (defScope s_law) s.heap.objs.size f cdv)) := hr.mono (by decide)
    have r3 : Room 3 (A.deeper (envOfC "law" (defScope s_law) s.heap.objs.size f cdv)) := hr.mono (by decide)
    have r4 : Room 4 (A.deeper (envOfC "law" (defScope s_law) s.heap.objs.size f cdv)) := hr.mono (by decide)
    have r6 : Room 6 (A.deeper (envOfC "law" (defScope s_law) s.heap.objs.size f cdv)) := hr.mono (by decide)
    have r7 : Room 7 (A.deeper (envOfC "law" (defScope s_law) s.heap.objs.size f cdv)) := hr.mono (by decide)
    have room : (A.deeper (envOfC "law" (defScope s_law) s.heap.objs.size f cdv)).units + 3 < cLine := by
      have := hr.un
      omega
    obtain ⟨R, hR, rest⟩ := law_rest L (f := f) (cdv := cdv) (A := A) (outer := outer) (s := s) (H := H) (E := E) hr
    refine ⟨_, pss_cons (ps_set (i := 1) scLaw.nd rfl (Or.inl rfl) (pe_call GG r1 (by rfl) mG kG bG .nil pass0 (pa_cons (pv 0) pa_nil)))
      (pss_cons (ps_for PassesOwn.never rfl (pi_range1 (by rfl) L.range (pa_cons pe_int pa_nil)) (pg_name (i := 2) scLaw.nd rfl (Or.inl rfl))
        (pss_cons (ps_set (i := 3) scLaw.nd rfl (Or.inr rfl) (pe_call GN r2 (by rfl) mN kN bN .nil pass0 (pa_cons (pv 1) (pa_cons (pe_op op_add pe_int (pe_call GD r1 (by rfl) mD kD bD .nil pass0 (pa_cons (pv 1) (pa_cons pe_int pa_nil)))) pa_nil))))
        (pss_cons (ps_set (i := 4) scLaw.nd rfl (Or.inl rfl) (pe_lst (pa_cons (pe_call GT r6 (by rfl) mT kT bT .nil pass0 (pa_cons (pv 1) (pa_cons (pv 3) (pa_cons pe_int pa_nil)))) (pa_cons (pe_call GT r6 (by rfl) mT kT bT .nil pass0 (pa_cons (pv 1) (pa_cons (pv 3) (pa_cons pe_int pa_nil)))) pa_nil))))
        (pss_cons (ps_set (i := 5) scLaw.nd rfl (Or.inr rfl) (pe_lc (own := [("_law_tree_here", 12)]) (g := gName 12) (tt := tYes) (te := tCall (spSay C 3) [] E0 (tCons (tVar 12) tNil)) (by rfl) scLaw.nd (pi_list (pv 4))
            (blkOk_by (own := [("_law_tree_here", 12)]) (N := nmLaw) (sc := defScope s_law) (by decide +kernel))
            (fun _ _ _ _ _ => pg_name (i := 12) scLaw.nd rfl (Or.inl rfl)) (fun _ _ _ _ _ => pts_nil) (fun _ _ _ _ _ => pe_call GS hr (by rfl) mS kS bS .nil pass0 (pa_cons (pv 12) pa_nil))))
        (pss_cons (ps_setLc (i := 6) (own := [("_law_tree_here", 12)]) (g := gName 12) (tt := tYes)
            (te := tCB (rDictT K) (tCons (tLc (iList K (tCall (spChoices K) [] E0 (tCons (tVar 3) tNil))) (gName 13) tYes (tTup (tCons (tVar 13) (tCons (tCall (spHold K 3) [] E0 (tCons (tVar 12) (tCons (tVar 13) tNil))) tNil))) [13]) tNil))
            (by rfl) scLaw.nd (by rfl) (by rfl) (sw_true rfl rfl rfl (by decide +kernel)) (pi_list (pv 4))
            (blkOk_by (own := [("_law_tree_here", 12)]) (N := nmLaw) (sc := defScope s_law) (by decide +kernel))
            (fun _ _ _ _ _ => pg_name (i := 12) scLaw.nd rfl (Or.inr rfl)) (fun _ _ _ _ _ => pts_nil)
            (fun _ _ _ _ _ => pe_callTy (call_dictT rfl room) (by rfl) L.dict (by decide +kernel) (pa_cons (pe_lc (own := [("_law_row", 13)]) (g := gName 13) (tt := tYes) (te := tTup (tCons (tVar 13) (tCons (tCall (spHold K 3) [] E0 (tCons (tVar 12) (tCons (tVar 13) tNil))) tNil))) (by rfl) scLaw.nd
              (pi_list (pe_call GC r1 (by rfl) mC kC bC .nil pass0 (pa_cons (pv 3) pa_nil))) (blkOk_by (own := [("_law_row", 13)]) (N := nmLaw) (sc := scTold) (by decide +kernel))
              (fun _ _ _ _ _ => pg_name (i := 13) scLaw.nd rfl (Or.inl rfl)) (fun _ _ _ _ _ => pts_nil)
              (fun _ _ _ _ _ => pe_tup (pa_cons (pv 13) (pa_cons (pe_call GH r4 (by rfl) mH kH bH .nil pass0 (pa_cons (pv 12) (pa_cons (pv 13) pa_nil))) pa_nil)))) pa_nil)))
        (pss_cons (ps_for PassesOwn.never rfl (pi_range1 (by rfl) L.range (pa_cons pe_int pa_nil)) (pg_name (i := 7) scLaw.nd rfl (Or.inl rfl))
            (pss_one (ps_if (pt_not (pt_val (pe_call GR r3 (by rfl) mR kR bR .nil pass0 (pa_cons (pv 1) (pa_cons (pe_ix ix_list (pv 5) (pv 7) (fun _ _ => rfl)) (pa_cons (pe_ix ix_list (pv 6) (pv 7) (fun _ _ => rfl)) (pa_cons (pv 3) pa_nil))))))) (pss_one (ps_ret pe_bl)) pss_nil)))
          hR))))))
      (pss_cons (ps_set (i := 11) scLaw.nd rfl (Or.inl rfl) (pe_smeth (pe_glob (by rfl) L.sy.mgC (v := .ref C) rfl) M2 G2 r7 b2 pass0 (pa_cons pe_str pa_nil)))
      (pss_cons (ps_if (PW.pt (pw_or (pt_cmpR (op_neI L.hm L.hne e1 f1 G1 r2 b1 pass0) (pe_op (op_binI (op := .BitOr) L.sz.sf A5 f5 G5 r7 b5 pass0) (pv 11) (pe_un (un_invI A7 f7 G7 r7 b7 pass0) (pv 11))) (pe_smeth0 (pe_glob (by rfl) L.sy.mgC (v := .ref C) rfl) M3 G3 r7 b3 pass0) (nomark _))
          (pw_or1 (pt_cmpR (op_neI L.hm L.hne e1 f1 G1 r2 b1 pass0) (pe_op (op_binI (op := .BitAnd) L.sz.sf A6 f6 G6 r7 b6 pass0) (pv 11) (pe_un (un_invI A7 f7 G7 r7 b7 pass0) (pv 11))) (pe_smeth0 (pe_glob (by rfl) L.sy.mgC (v := .ref C) rfl) M4 G4 r7 b4 pass0) (nomark _)))))
        (pss_one (ps_ret pe_bl)) pss_nil)
      (pss_one (ps_ret (pe_and (pe_cmpR (op_eqD hr.units) (pe_meth0 (pe_smeth0 (pe_glob (by rfl) L.sy.mgC (v := .ref C) rfl) M3 G3 r7 b3 pass0) L.sy.cl m8 G8 r1 b8 .nil pass0) (pe_lst pa_nil) (nomark _))
        (pe_one (pe_not (pe_meth (pe_smeth0 (pe_glob (by rfl) L.sy.mgC (v := .ref C) rfl) M4 G4 r7 b4 pass0) L.sy.cl m9 G9 r2 b9 .nil pass0 (pa_cons (pe_lst (pa_cons pe_str pa_nil)) pa_nil)))))))))), ?_⟩
    have c24 : cost 3 = 24 := rfl
    have big : 300 ≤ sizeLine := by decide
    refine ⟨_, rfl, a, ns, rfl, hA, h63, fun p l H1 np nl S1 s1 => ?_⟩
    refine ⟨4, rfl, by decide, by decide, for_range (lo := 0) (n := 4) (fun i σ H' => ∃ (n : Nat) (c2 c3 c4 c5 c6 c7 c8 c9 c10 : Option V), σ = [some (.ref a), some (.ref p), c2, c3, c4, c5, c6, c7, c8, c9, c10, none, none, none, none] ∧ n ≤ 5000 * i ∧ Spr H' p l n) ⟨0, none, none, none, none, none, none, none, none, none, rfl, Nat.le_refl _, S1⟩ ?_ ?_⟩
    · rintro i σ H2 hi ⟨n, c2, c3, c4, c5, c6, c7, c8, c9, c10, rfl, hn, S2⟩
      -- names
      refine ⟨_, rfl, _, rfl, p, l, n, 5, rfl, S2, by omega, by decide, by decide, fun c H3 c0 c1 S3 s3 => ⟨_, _, rfl, rfl, p, l, n + 1, 1 + c.toNat, ?_, S3, by omega, by omega, fun N ns H4 ln nn mn S4 nN hN s4 => ?_⟩⟩
      · show [V.ref p, V.int (1 + c)] = [V.ref p, V.int ((1 + c.toNat : Nat) : Int)]
        rw [show (1 + c) = ((1 + c.toNat : Nat) : Int) by omega]
      have NS := S3.apart nN
      have l6 : ns.length ≤ 6 := by omega
      have okn : ∀ n ∈ ns, isName n = true := fun z hz => menu_ok z (mn z hz)
      -- trees
      refine ⟨_, rfl, _, rfl, p, l, N, n + 1 + (1 + c.toNat), ns, rfl, S4, by omega, hN, NS.1, NS.2, okn, by omega, fun v1 t1 n5 H5 hn5 S5 T1 d1 u1 s5 => ?_⟩
      have hN5 := s5 _ _ hN NS.1 NS.2
      refine ⟨_, rfl, _, rfl, p, l, N, n5, ns, rfl, S5, by omega, hN5, NS.1, NS.2, okn, by omega, fun v2 t2 n6 H6 hn6 S6 T2 d2 u2 s6 => ?_⟩
      have hN6 := s6 _ _ hN5 NS.1 NS.2
      have T1' := T1.keeps (Keeps.of2 S5 s6)
      refine ⟨(by show 2 ≤ sizeLine; decide), fun T hT => ?_⟩
      have TS := S6.apart hT
      have s7 : Same H6 (upd H6 T (.lst [v1, v2])) := same_step (Same.refl H6) hT
      have hT7 : upd H6 T (.lst [v1, v2]) T = some (.lst [v1, v2]) := upd_same
      generalize upd H6 T (.lst [v1, v2]) = H7 at *
      have S7 := S6.sameS s7
      have two : ∀ (j : Nat) (v : V), ([v1, v2] : List V)[j]? = some v → ∃ tr, ([t1, t2] : List Tr)[j]? = some tr ∧ TreeAt H7 v tr ∧ tr.depth ≤ 3 ∧ ∀ z ∈ tr.names, z ∈ ns := fun j v hv => by
        match j, hv with
        | 0, hv =>
          cases (show v1 = v by simpa using hv)
          exact ⟨t1, rfl, T1'.same s7, d1, u1⟩
        | 1, hv =>
          cases (show v2 = v by simpa using hv)
          exact ⟨t2, rfl, T2.same s7, d2, u2⟩
        | j + 2, hv => simp at hv
      -- says
      refine ⟨_, rfl, T, rfl, ⟨_, SqL.of hT7⟩, fun S hS => ?_⟩
      have SS := S7.apart hS
      refine lc_list (K := K) (a := T) (xs := [v1, v2]) (fun i H' => Same H7 H' ∧ ∃ us : List V, H' S = some (.lst us) ∧ us.length = i ∧ ∀ (j : Nat) (u : V), us[j]? = some u → ∃ (x : Addr) (tr : Tr), u = .ref x ∧ ([t1, t2] : List Tr)[j]? = some tr ∧ IsSay H' C x ns tr.sem)
        ⟨same_step (Same.refl H7) hS, [], upd_same, rfl, fun j u e => by simp at e⟩ (fun i H' _ z => SqL.of (z.1 _ _ hT7)) ?_ ?_
      · rintro i' v H8 hv ⟨s8, us, hS8, lu, all⟩
        obtain ⟨tr, htr, Tr', dr, ur⟩ := two i' v hv
        have li := (List.getElem?_eq_some_iff.mp hv).1
        refine ⟨rfl, ?_⟩
        refine iteT (B := False) ?_
        rw [if_pos rfl]
        refine ⟨_, rfl, v, tr, ns, rfl, Tr'.same s8, dr, ur, okn, l6, fun x H9 s9 nx is => ⟨us, s9 _ _ hS8, ?_, same_over (fun b o e => s9 b o (s8 b o e)) hS, us ++ [.ref x], upd_same, by rw [List.length_append, lu]; rfl, fun j u hu => ?_⟩⟩
        · have : i' < 2 := li
          omega
        · by_cases lt : j < us.length
          · rw [List.getElem?_append_left lt] at hu
            obtain ⟨x', tr', h1, h2, h3⟩ := all j u hu
            exact ⟨x', tr', h1, h2, say_off (h3.same s9) (s9 _ _ hS8)⟩
          · rw [List.getElem?_append_right (by omega)] at hu
            have z : j - us.length = 0 := by
              have := (List.getElem?_eq_some_iff.mp hu).1
              have : j - us.length < 1 := this
              omega
            rw [z] at hu
            cases (show V.ref x = u by simpa using hu)
            have ej : j = i' := by omega
            rw [ej]
            exact ⟨x, tr, rfl, htr, say_off is (s9 _ _ hS8)⟩
      · rintro H8 ⟨s8, us, hS8, lu, all⟩
        obtain ⟨w1, w2, rfl⟩ : ∃ w1 w2, us = [w1, w2] := by
          match us, lu with
          | [w1, w2], _ => exact ⟨w1, w2, rfl⟩
        obtain ⟨x1, tx1, rfl, e1', I1⟩ := all 0 w1 rfl
        obtain ⟨x2, tx2, rfl, e2', I2⟩ := all 1 w2 rfl
        cases (show t1 = tx1 by simpa using e1')
        cases (show t2 = tx2 by simpa using e2')
        have S8 := S7.sameS s8
        have hN8 := s8 _ _ (s7 _ _ hN6)
        have hT8 := s8 _ _ hT7
        -- told
        refine ⟨_, rfl, T, rfl, ⟨_, SqL.of hT8⟩, fun D hD => ?_⟩
        have DS := S8.apart hD
        refine lc_list (K := K) (a := T) (xs := [v1, v2]) (fun i H' => Same H8 H' ∧ ∃ us : List V, H' D = some (.lst us) ∧ us.length = i ∧ ∀ (j : Nat) (u : V), us[j]? = some u → ∃ (d : Addr) (tr : Tr) (ys : List Str), u = .ref d ∧ ([t1, t2] : List Tr)[j]? = some tr ∧ ys.Perm ns ∧ ys.Pairwise leS ∧ H' d = some (.dT (toldOf ys tr.sem)))
          ⟨same_step (Same.refl H8) hD, [], upd_same, rfl, fun j u e => by simp at e⟩ (fun i H' _ z => SqL.of (z.1 _ _ hT8)) ?_ ?_
        · rintro i' v H9 hv ⟨s9, us, hD9, lu, all⟩
          obtain ⟨tr, htr, Tr', dr, ur⟩ := two i' v hv
          have li := (List.getElem?_eq_some_iff.mp hv).1
          have Tr9 := (Tr'.same s8).same s9
          refine ⟨rfl, ?_⟩
          refine iteT (B := False) ?_
          rw [if_pos rfl]
          refine ⟨_, rfl, N, ns, rfl, SqL.of (s9 _ _ hN8), l6, fun ys B us' H10 pm srt s10 nB hB rows => ⟨B, rfl, ⟨_, SqL.of hB⟩, fun D2 hD2 => ?_⟩⟩
          have ny : ys.Nodup := pm.nodup_iff.mpr nn
          have lc : (chs ys).length ≤ 64 := by
            rw [chs_len]
            have := pm.length_eq
            exact Nat.le_trans (Nat.pow_le_pow_right (by decide) (show ys.length ≤ 6 by omega)) (by decide)
          refine lc_list (K := K) (a := B) (xs := us') (fun j H' => Same H10 H' ∧ ∃ ps : List Addr, H' D2 = some (.lst (ps.map V.ref)) ∧ ps.length = j ∧ Paired (fun p kv => ∃ b, H' p = some (.tup [V.ref b, kv.2]) ∧ H' b = some (.tup (kv.1.map kV))) ps ((toldOf ys tr.sem).take j))
            ⟨same_step (Same.refl H10) hD2, [], upd_same, rfl, .nil⟩ (fun i H' _ z => SqL.of (z.1 _ _ hB)) ?_ ?_
          · rintro j x H11 hx ⟨s11, ps, h11, lp, pr⟩
            obtain ⟨q, r, rfl, hr', hq⟩ := rows.get hx
            have hq11 := s11 _ _ hq
            have lj := (List.getElem?_eq_some_iff.mp hr').1
            refine ⟨rfl, ?_⟩
            refine iteT (B := False) ?_
            rw [if_pos rfl]
            refine ⟨_, rfl, _, rfl, _, rfl, v, q, tr, r, rfl, (Tr9.same s10).same s11, dr, .inr (SqT.of hq11), fun H12 s12 => ⟨(by show 2 ≤ sizeLine; decide), fun b hb => ?_⟩⟩
            have s13 : Same H11 (upd H12 b (.tup [.ref q, .bl (tr.sem fun n => decide (n ∈ r))])) := same_step s12 hb
            have b13 : upd H12 b (.tup [.ref q, .bl (tr.sem fun n => decide (n ∈ r))]) b = some (.tup [.ref q, .bl (tr.sem fun n => decide (n ∈ r))]) := upd_same
            generalize upd H12 b (.tup [.ref q, .bl (tr.sem fun n => decide (n ∈ r))]) = H13 at *
            have h13 := s13 _ _ h11
            have off : ∀ c xs, H13 c = some (.tup xs) → upd H13 D2 (.lst (ps.map V.ref ++ [V.ref b])) c = some (.tup xs) := fun c xs e => Keeps.upd h13 rfl _ _ e rfl
            refine ⟨_, h13, by rw [List.length_map]; omega, same_over (fun c o e => s13 c o (s11 c o e)) hD2, ps ++ [b], by rw [upd_same, List.map_append]; rfl, by rw [List.length_append, lp]; rfl, ?_⟩
            have ek : (toldOf ys tr.sem).take (j + 1) = (toldOf ys tr.sem).take j ++ [(keyR r, V.bl (atRow tr.sem r))] := by
              have lt : j < (toldOf ys tr.sem).length := by
                unfold toldOf
                rw [List.length_map]
                exact lj
              rw [List.take_succ_eq_append_getElem lt]
              have e : (toldOf ys tr.sem)[j]? = some (keyR r, V.bl (atRow tr.sem r)) := by
                unfold toldOf
                rw [List.getElem?_map, hr']
                rfl
              rw [List.getElem?_eq_getElem lt] at e
              rw [Option.some.inj e]
            rw [ek]
            refine Paired.snoc (Paired.mapP pr fun p' kv' z => ?_) ⟨q, off _ _ b13, by rw [keyR_kV]; exact off _ _ (s13 _ _ hq11)⟩
            obtain ⟨b', z1, z2⟩ := z
            exact ⟨b', off _ _ (s13 _ _ z1), off _ _ (s13 _ _ z2)⟩
          · rintro H11 ⟨s11, ps, h11, lp, pr⟩
            have lt : us'.length = (toldOf ys tr.sem).length := by
              unfold toldOf
              rw [List.length_map, rows.len]
            rw [lt, List.take_length] at pr
            refine ⟨D2, ps, toldOf ys tr.sem, rfl, SqL.of h11, Paired.mapP pr (fun p' kv' z => ?_), told_keys ny, fun dd hdd => ?_⟩
            · obtain ⟨b', z1, z2⟩ := z
              exact ⟨b', SqT.of z1, z2⟩
            have s12 : Same H9 (upd H11 dd (.dT (toldOf ys tr.sem))) := same_step (fun b o e => s11 b o (s10 b o e)) hdd
            have d12 : upd H11 dd (.dT (toldOf ys tr.sem)) dd = some (.dT (toldOf ys tr.sem)) := upd_same
            generalize upd H11 dd (.dT (toldOf ys tr.sem)) = H12 at *
            have hD12 := s12 _ _ hD9
            have off : ∀ {c : Addr} {ks : List (List Key × V)}, H12 c = some (.dT ks) → upd H12 D (.lst (us ++ [.ref dd])) c = some (.dT ks) := fun {c ks} e => by
              have nc : c ≠ D := fun z => by
                rw [z, hD12] at e
                cases e
              rw [upd_ne nc]
              exact e
            refine ⟨us, hD12, ?_, same_over (fun b o e => s12 b o (s9 b o e)) hD, us ++ [.ref dd], upd_same, by rw [List.length_append, lu]; rfl, fun j u hu => ?_⟩
            · have : i' < 2 := li
              omega
            · by_cases lt : j < us.length
              · rw [List.getElem?_append_left lt] at hu
                obtain ⟨d', tr', ys', h1, h2, h3, h4, h5⟩ := all j u hu
                exact ⟨d', tr', ys', h1, h2, h3, h4, off (s12 _ _ h5)⟩
              · rw [List.getElem?_append_right (by omega)] at hu
                have z : j - us.length = 0 := by
                  have := (List.getElem?_eq_some_iff.mp hu).1
                  have : j - us.length < 1 := this
                  omega
                rw [z] at hu
                cases (show V.ref dd = u by simpa using hu)
                have ej : j = i' := by omega
                rw [ej]
                exact ⟨dd, tr, ys, rfl, htr, pm, sorted_pw srt, off d12⟩
        · rintro H9 ⟨s9, us, hD9, lu, all⟩
          obtain ⟨w1, w2, rfl⟩ : ∃ w1 w2, us = [w1, w2] := by
            match us, lu with
            | [w1, w2], _ => exact ⟨w1, w2, rfl⟩
          obtain ⟨e1, te1, ys, rfl, y1, pm, sy, hd1⟩ := all 0 w1 rfl
          obtain ⟨e2, te2, ys', rfl, y2, pm', sy', hd2⟩ := all 1 w2 rfl
          cases (show t1 = te1 by simpa using y1)
          cases (show t2 = te2 by simpa using y2)
          have ey : ys' = ys := perm_sorted (pm'.trans pm.symm) sy' sy (pm.nodup_iff.mpr nn)
          subst ey
          have S9 := S8.sameS s9
          have hS9 := s9 _ _ hS8
          have J1 := I1.same s9
          have J2 := I2.same s9
          have hN9 := s9 _ _ hN8
          have hT9 := s9 _ _ hT8
          have dS1 := S9.notp hd1 (fun xs e => by cases e)
          have dS2 := S9.notp hd2 (fun xs e => by cases e)
          -- told right
          refine ⟨2, rfl, by decide, by decide, for_range (lo := 0) (n := 2) (fun j σ H' => ∃ (n' : Nat) (c7 : Option V), σ = midSt a p (some (.int (0 + (i : Int)))) N T S D c7 c8 c9 c10 ∧ n' ≤ n6 + 2000 * j ∧ Spr H' p l n' ∧ Same2 p l H9 H') ⟨n6, c7, rfl, Nat.le_refl _, S9, Same2.refl p l H9⟩ ?_ ?_⟩
          · rintro j σ H10 hj ⟨n', c7', rfl, hn', S10, s10⟩
            have k10 := Keeps.of2 S9 s10
            have hS10 := s10 _ _ hS9 SS.1 SS.2
            have hD10 := s10 _ _ hD9 DS.1 DS.2
            have hN10 := s10 _ _ hN9 NS.1 NS.2
            have both : j = 0 ∨ j = 1 := by omega
            rcases both with rfl | rfl
            · refine ⟨_, rfl, _, rfl, _, rfl, S, _, _, _, rfl, rfl, SqL.of hS10, at_of (j := 0) rfl rfl, _, rfl, _, rfl, D, _, _, _, rfl, rfl, SqL.of hD10, at_of (j := 0) rfl rfl, _, rfl,
                p, l, x1, e1, N, n', ns, ys', t1.sem, rfl, S10, by omega, J1.keeps k10, s10 _ _ hd1 dS1.1 dS1.2, hN10, NS.1, NS.2, pm, sy, nn, l6, mn, fun n'' H11 hn'' S11 s11 => ⟨_, rfl, iteF ⟨n'', _, rfl, by omega, S11, s10.trans s11⟩⟩⟩
            · refine ⟨_, rfl, _, rfl, _, rfl, S, _, _, _, rfl, rfl, SqL.of hS10, at_of (j := 1) rfl rfl, _, rfl, _, rfl, D, _, _, _, rfl, rfl, SqL.of hD10, at_of (j := 1) rfl rfl, _, rfl,
                p, l, x2, e2, N, n', ns, ys', t2.sem, rfl, S10, by omega, J2.keeps k10, s10 _ _ hd2 dS2.1 dS2.2, hN10, NS.1, NS.2, pm, sy, nn, l6, mn, fun n'' H11 hn'' S11 s11 => ⟨_, rfl, iteF ⟨n'', _, rfl, by omega, S11, s10.trans s11⟩⟩⟩
          · rintro σ H10 ⟨n', c7', rfl, hn', S10, s10⟩
            have k10 := Keeps.of2 S9 s10
            have T9 : TreeAt H9 v1 t1 := (((T1'.same s7).same s8).same s9)
            refine rest _ a p N T S D _ c7' c8 c9 c10 H10 ns ys' t1 t2 ⟨nn, mn, l6, pm, sy, s10 _ _ hN9 NS.1 NS.2, ⟨v1, v2, s10 _ _ hT9 TS.1 TS.2, T9.keeps k10⟩, d1, u1, u2, ⟨x1, x2, s10 _ _ hS9 SS.1 SS.2, J1.keeps k10, J2.keeps k10⟩, ⟨e1, e2, s10 _ _ hD9 DS.1 DS.2, s10 _ _ hd1 dS1.1 dS1.2, s10 _ _ hd2 dS2.1 dS2.2⟩⟩ fun c8' c9' c10' H11 s11 => ?_
            exact ⟨n', _, _, _, _, _, _, _, _, _, rfl, by omega, S10.sameS s11⟩
    · rintro σ H2 ⟨n, c2, c3, c4, c5, c6, c7, c8, c9, c10, rfl, hn, S2⟩
      have oka : isName "a" = true := by decide +kernel
      have ok1 : ∀ n ∈ (["a"] : List Str), isName n = true := fun n hn => by rw [List.mem_singleton.mp hn]; exact oka
      have ok0 : ∀ n ∈ ([] : List Str), isName n = true := fun n hn => by cases hn
      refine ⟨rfl, "a", rfl, oka, fun x H3 s3 nx Ix => ?_⟩
      obtain ⟨dx, fs, hx⟩ := Ix.at_
      -- (one | ~one) != Say.yes()
      refine ⟨_, rfl, _, rfl, x, dx, fs, rfl, hx, x, ["a"], _, rfl, Ix, (by show 1 ≤ 6; decide), fun y H4 s4 ny Iy => ?_⟩
      obtain ⟨dy, gs, hy⟩ := Iy.at_
      refine ⟨x, y, dx, dy, fs, gs, rfl, rfl, s4 _ _ hx, hy, x, y, ["a"], _, _, rfl, Ix.same s4, Iy, (by show 1 ≤ 6; decide), fun z H5 s5 nz Iz => ⟨rfl, rfl, fun o H6 s6 no Io => ?_⟩⟩
      refine says_ne L.sy (Iz.same s6) ok1 Io ok0 fun r q => ⟨_, rfl, ?_⟩
      have rt : r = true := q.mpr fun c => by cases c "a" <;> rfl
      rw [rt]
      refine iteF ?_
      have s36 : Same H3 H6 := fun b o e => s6 b o (s5 b o (s4 b o e))
      -- (one & ~one) != Say.no()
      refine ⟨_, rfl, _, rfl, x, dx, fs, rfl, s36 _ _ hx, x, ["a"], _, rfl, Ix.same s36, (by show 1 ≤ 6; decide), fun y' H7 s7 ny' Iy' => ?_⟩
      obtain ⟨dy', gs', hy'⟩ := Iy'.at_
      refine ⟨x, y', dx, dy', fs, gs', rfl, rfl, s7 _ _ (s36 _ _ hx), hy', x, y', ["a"], _, _, rfl, (Ix.same s36).same s7, Iy', (by show 1 ≤ 6; decide), fun z' H8 s8 nz' Iz' => ⟨rfl, rfl, fun o' H9 s9 no' Io' => ?_⟩⟩
      refine says_ne L.sy (Iz'.same s9) ok1 Io' ok0 fun r' q' => ⟨_, rfl, ?_⟩
      have rt' : r' = true := q'.mpr fun c => by cases c "a" <;> rfl
      rw [rt']
      refine iteF ?_
      -- the end
      refine ⟨rfl, rfl, fun u H10 s10 nu Iu => ?_⟩
      obtain ⟨du, hs, hu⟩ := Iu.at_
      refine ⟨u, du, hs, rfl, hu, say_lookup Iu hu (by decide) (by decide), u, [], _, rfl, Iu, fun Lt gs2 H11 s11 nL hL nd2 pw2 iff2 => ?_⟩
      have e0 : gs2 = [] := by
        cases gs2 with
        | nil => rfl
        | cons g gs2 =>
          obtain ⟨c, hc⟩ := (iff2 g).mp (List.mem_cons_self ..)
          exact absurd rfl hc
      subst e0
      refine ⟨(by show 0 ≤ sizeLine; decide), fun e he => ?_⟩
      have s12 : Same H11 (upd H11 e (.lst [])) := same_step (Same.refl H11) he
      refine ⟨.list [], .list [], .lst (SqL.of (s12 _ _ hL)) .nil, .lst (SqL.of upd_same) .nil, by decide +kernel, by decide +kernel, true, by simp [PyData.eqv, PyData.eqvAll], iteT ?_⟩
      refine ⟨rfl, rfl, fun u' H13 s13 nu' Iu' => ?_⟩
      obtain ⟨du', hs', hu'⟩ := Iu'.at_
      refine ⟨u', du', hs', rfl, hu', say_lookup Iu' hu' (by decide) (by decide), (by show 1 ≤ sizeLine; decide), fun w' hw' => ?_⟩
      have s14 : Same H13 (upd H13 w' (.lst [.str "a"])) := same_step (Same.refl H13) hw'
      refine ⟨u', w', [], ["a"], _, rfl, Iu'.same s14, .inl (SqL.of upd_same), ok1, fun H15 s15 => ⟨_, rfl, ?_⟩⟩
      exact k H15
end
end Cm

set_option Elab.async false
set_option linter.all false
set_option maxRecDepth 100000
set_option maxHeartbeats 8000000
namespace Cm
open PySem PySem.Spec PyProof.Rows L2 Kv
/-! ### drawn orders -/
section
variable {P : Program} {w : World} {K : PySem.W.Frag} {mg : Str → Option Value} {base : Heap}
theorem scMixed : FnScope ["_law_spring_here", "_law_things", "_law_left", "_law_found"] ["_law_spring_here", "_law_things"] (defScope s_l_mixed) := ⟨rfl, rfl, rfl, by decide +kernel, rfl, by decide +kernel, by decide +kernel⟩
theorem ok_mixed {f : Addr} {fd : FuncData} (D : Dn P w K mg base "_law_draw" ["_law_spring_here", "_law_many"] 1 spDraw) (mL : mg "list" = none) (mLen : mg "len" = none) (F : Fun K "_law_mixed" "_law_mixed" s_l_mixed f fd) :
    FnOk P w K mg base CX0 2 f fd ["_law_spring_here", "_law_things"] (spMixed K) := by
  obtain ⟨fD, fdD, GD, mD, kD, bD⟩ := D.ex
  refine F.ok scMixed (fun vs H Q E h => ?_) (fun cdv A outer s H vs Q E hr h => ?_)
  · obtain ⟨p, l, t, n, ns, rfl, _⟩ := h
    rfl
  · obtain ⟨p, l, t, n, ns, rfl, S, hn, hT, h64, ok, k⟩ := h
    refine ⟨_, pss_cons (ps_par (i := 2) (j := 3) (by rfl) scMixed.nd rfl rfl (by decide) rfl rfl (pa_cons (pe_callTy call_list_of (by rfl) mL (by decide +kernel) (pa_cons (pv 1) pa_nil)) (pa_cons (pe_lst pa_nil) pa_nil)) (by rfl))
      (pss_cons (ps_while PassesOwn.never (pt_cmpR (op_neD hr.units) (pv 2) (pe_lst pa_nil) (nomark _))
        (pss_one (ps_expr (pe_bm PySem.F.plainAttrs_list PySem.F.slot_list_append PySem.F.type_list_append mt_append (pv 3)
          (pa_cons (pe_bm PySem.F.plainAttrs_list PySem.F.slot_list_pop PySem.F.type_list_pop mt_popAt (pv 2) (pa_cons (pe_call GD hr rfl mD kD bD .nil pass0 (pa_cons (pv 0) (pa_cons (pe_callB call_len_seq (by rfl) mLen PySem.boot_len (pa_cons (pv 2) pa_nil)) pa_nil))) pa_nil)) pa_nil)))))
      (pss_one (ps_ret (pv 3)))), ?_⟩
    refine ⟨_, rfl, t, _, rfl, hT, fun a ha => ⟨(by show 0 ≤ sizeLine; decide), fun D hD => ⟨_, _, rfl, ?_⟩⟩⟩
    have naD : a ≠ D := fun z => by
      rw [z, upd_same] at hD
      cases hD
    have hD0 : H D = none := by
      rw [upd_ne naD.symm] at hD
      exact hD
    have s1 : Same H (upd (upd H a (.lst (ns.map V.str))) D (.lst [])) := same_step (same_step (Same.refl H) ha) hD
    have ha1 : upd (upd H a (.lst (ns.map V.str))) D (.lst []) a = some (.lst (ns.map V.str)) := by rw [upd_ne naD, upd_same]
    have hD1 : upd (upd H a (.lst (ns.map V.str))) D (.lst []) D = some (.lst (([] : List Str).map V.str)) := upd_same
    generalize upd (upd H a (.lst (ns.map V.str))) D (.lst []) = H1 at *
    have aS := Spr.apart S ha
    have dS := Spr.apart S hD0
    refine while_by (fun σ H' => ∃ rs fs : List Str, σ = [some (.ref p), some (.ref t), some (.ref a), some (.ref D)] ∧ H' a = some (.lst (rs.map V.str)) ∧ H' D = some (.lst (fs.map V.str)) ∧ (fs ++ rs).Perm ns ∧ Spr H' p l (n + fs.length) ∧ Same2 p l H H')
      (fun σ H' => match H' a with | some (.lst xs) => xs.length | _ => 0) ⟨ns, [], rfl, ha1, hD1, List.Perm.refl _, S.sameS s1, Same2.of s1⟩ ?_ ?_
    · rintro σ H2 ⟨rs, fs, rfl, ha2, hD2, pm, S2, s2⟩
      have okr : ∀ z ∈ rs, isName z = true := fun z hz => ok z (pm.mem_iff.mp (List.mem_append_right _ hz))
      have lens : fs.length + rs.length = ns.length := by
        have e := pm.length_eq
        rwa [List.length_append] at e
      refine ⟨_, rfl, (by show 0 ≤ sizeLine; decide), fun q hq => ?_⟩
      have aq : a ≠ q := ne_of_none ha2 hq
      have Dq : D ≠ q := ne_of_none hD2 hq
      have qS := Spr.apart S2 hq
      have ha3 : upd H2 q (.lst []) a = some (.lst (rs.map V.str)) := by rw [upd_ne aq]; exact ha2
      have hD3 : upd H2 q (.lst []) D = some (.lst (fs.map V.str)) := by rw [upd_ne Dq]; exact hD2
      have S3 : Spr (upd H2 q (.lst [])) p l (n + fs.length) := S2.sameS (same_step (Same.refl H2) hq)
      have s3 : Same2 p l H (upd H2 q (.lst [])) := s2.trans (Same2.of (same_step (Same.refl H2) hq))
      refine ⟨.list (rs.map PyData.str), .list [], .lst (SqL.of ha3) (dpStrs rs), .lst (SqL.of upd_same) .nil, shpStrsL okr, by decide +kernel, ?_⟩
      generalize upd H2 q (.lst []) = H3 at *
      cases rs with
      | nil =>
        refine ⟨false, by simp [PyData.eqv, PyData.eqvAll], iteF ?_⟩
        rw [List.append_nil] at pm
        refine ⟨_, rfl, k D fs H3 pm ?_ hD0 hD3 s3⟩
        have e : fs.length = ns.length := by simpa using lens
        rw [← e]
        exact S3
      | cons r rs =>
        refine ⟨true, by simp [PyData.eqv, PyData.eqvAll], iteT ?_⟩
        have hl : ((r :: rs).map V.str).length = (r :: rs).length := List.length_map _
        have hle : (r :: rs).length ≤ 64 := by omega
        have hpos : 0 < (r :: rs).length := by simp
        refine ⟨_, rfl, .inl ⟨rfl, _, SqL.of hD3⟩, _, rfl, .inl ⟨rfl, _, SqL.of ha3⟩, _, rfl, _, rfl, a, _, rfl, .inl (SqL.of ha3), p, l, n + fs.length, (((r :: rs).length : Nat) : Int), ?_, S3, by omega, by omega, by omega, fun c H4 c0 c1 S4 s4 => ?_⟩
        · rw [hl]
          rfl
        have ha4 := s4 a _ ha3 aS.1 aS.2
        have hD4 := s4 D _ hD3 dS.1 dS.2
        have hc : c.toNat < (r :: rs).length := by omega
        obtain ⟨y, hy⟩ : ∃ y, (r :: rs)[c.toNat]? = some y := ⟨_, List.getElem?_eq_getElem hc⟩
        refine ⟨a, _, c, c.toNat, .str y, rfl, rfl, ha4, by omega, by omega, ?_, ?_, ?_⟩
        · rw [hl]
          exact draw_bounds c0 c1
        · rw [List.getElem?_map, hy]
          rfl
        have e1 : ((r :: rs).map V.str).eraseIdx c.toNat = ((r :: rs).eraseIdx c.toNat).map V.str := erase_map V.str _ _
        rw [e1]
        have hD5 : upd H4 a (.lst (((r :: rs).eraseIdx c.toNat).map V.str)) D = some (.lst (fs.map V.str)) := by
          rw [upd_ne naD.symm]
          exact hD4
        refine ⟨D, _, _, rfl, rfl, hD5, ?_, ?_⟩
        · rw [List.length_map]
          have : 65 ≤ sizeLine := by decide
          omega
        refine ⟨⟨(r :: rs).eraseIdx c.toNat, fs ++ [y], rfl, ?_, ?_, ?_, ?_, ?_⟩, ?_⟩
        · rw [upd_ne naD, upd_same]
        · rw [upd_same, List.map_append]
          rfl
        · rw [List.append_assoc]
          exact (List.Perm.append_left fs (perm_erase hy)).trans pm
        · rw [List.length_append, show n + (fs.length + [y].length) = n + fs.length + 1 from rfl]
          exact (S4.off (H' := H4) aS.1 aS.2).off (H' := H4) dS.1 dS.2
        · intro b o e n1 n2
          rw [upd_ne (ne_of_none e hD0), upd_ne (ne_of_none e ha)]
          exact s4 b o (s3 b o e n1 n2) n1 n2
        · rw [upd_ne naD, upd_same, ha2]
          have hc2 : c.toNat < ((r :: rs)).length := hc
          show (((r :: rs).eraseIdx c.toNat).map V.str).length < ((r :: rs).map V.str).length
          rw [List.length_map, List.length_map, List.length_eraseIdx_of_lt hc2]
          omega
    · rintro σ H' Q1 Q2 mono ⟨v, e, z, g⟩
      refine ⟨v, e, z, fun q hq => ?_⟩
      obtain ⟨d, d', h1, h2, h3, h4, b, h5, h6⟩ := g q hq
      exact ⟨d, d', h1, h2, h3, h4, b, h5, mono _ _ h6⟩
end
end Cm

set_option Elab.async false
set_option linter.all false
set_option maxRecDepth 100000
set_option maxHeartbeats 8000000
namespace Cm
open PySem PySem.Spec PyProof.Rows L2 Kv
section
variable {P : Program} {w : World} {K : PySem.W.Frag} {h : Heap} {mg : Str → Option Value} {base : Heap}
theorem dn_mixed (X : K.In h) (G : h.Ns mainGlobals mg) (c : Says K) : Dn P w K mg base "_law_mixed" ["_law_spring_here", "_law_things"] 2 (spMixed K) := (D_law_mixed X G c).dn fun _ _ F _ _ => ok_mixed (dn_draw X G c) (N_list X G c) (N_len X G c) F
theorem dn_tree (X : K.In h) (G : h.Ns mainGlobals mg) (c : Says K) : Dn P w K mg base "_law_tree" ["_law_spring_here", "_law_names_here", "_law_depth"] 6 (spTree K 3) := (D_law_tree X G c).dn fun _ _ F b m => ok_tree (dn_draw X G c) (dn_pick X G c) (N_range X G c) F m b 3
theorem dn_say (X : K.In h) (G : h.Ns mainGlobals mg) (c : Says K) : Dn P w K mg base "_law_say" ["_law_tree_here"] 11 (spSay (He.ga K "Say") 3) := (D_law_say X G c).dn fun _ _ F b m => ok_say (sz_of X G c) F m b 3
theorem dn_holds (X : K.In h) (G : h.Ns mainGlobals mg) (c : Says K) : Dn P w K mg base "_law_holds" ["_law_tree_here", "_law_true"] 4 (spHold K 3) := (D_law_holds X G c).dn fun _ _ F b m => ok_hold F m b 3
theorem dn_choices (X : K.In h) (G : h.Ns mainGlobals mg) (c : Says K) : Dn P w K mg base "_law_choices" ["_law_names_here"] 1 (spChoices K) := (D_law_choices X G c).dn fun _ _ F _ _ => ok_choices (N_sorted X G c) (N_str X G c) F
theorem dn_same (X : K.In h) (G : h.Ns mainGlobals mg) (c : Says K) : Dn P w K mg base "_law_same" ["_law_found", "_law_due"] 2 (spSame K 1) := (D_law_same X G c).dn fun _ _ F b m => ok_same (N_isinstance X G c) (N_list X G c) (N_tuple X G c) (N_int X G c) (N_bool X G c) (N_len X G c) (N_all X G c) (N_zip X G c) F m b 1
theorem mn_holds (X : K.In h) (G : h.Ns mainGlobals mg) (c : Says K) : Mn P w K mg base (He.ga K "Say") "holds" ["self", "true"] 2 (spHolds K (He.ga K "Say")) := (M_holds c).mn fun _ _ F => ok_holds (sy_of X G c) F
theorem mn_tests (X : K.In h) (G : h.Ns mainGlobals mg) (c : Says K) : Mn P w K mg base (He.ga K "Say") "tests" ["self"] 1 (spTests K (He.ga K "Say")) := (M_tests c).mn fun _ _ F => ok_tests (sy_of X G c) F
theorem dn_tests (X : K.In h) (G : h.Ns mainGlobals mg) (c : Says K) : Dn P w K mg base "_law_tests" ["_law_names_here", "_law_told"] 1 (spTestsL K) := (D_law_tests X G c).dn fun _ _ F _ _ => ok_testsL (N_sorted X G c) (N_str X G c) (N_tuple X G c) (N_any X G c) F
theorem dn_right (X : K.In h) (G : h.Ns mainGlobals mg) (c : Says K) : Dn P w K mg base "_law_told_right" ["_law_spring_here", "_law_say_here", "_law_told", "_law_names_here"] 3 (spRight (He.ga K "Say")) :=
  (D_law_told_right X G c).dn fun _ _ F _ _ => ok_right (sy_of X G c) (mn_holds X G c) (mn_tests X G c) (dn_draw X G c) (dn_mixed X G c) (dn_pick X G c) (dn_same X G c) (dn_tests X G c) (N_tuple X G c) F
theorem lw_of (X : K.In h) (G : h.Ns mainGlobals mg) (c : Says K) : Lw P w K mg base (He.ga K "Say") where
  sy := sy_of X G c
  sz := sz_of X G c
  eq := on_eq X G c
  hm := (clsF_say c).hm
  hne := (clsF_say c).hne
  no := (clsF_say c).no
  holds := mn_holds X G c
  tests := mn_tests X G c
  spring := dn_spring X G c
  draw := dn_draw X G c
  names := dn_names X G c
  tree := dn_tree X G c
  say := dn_say X G c
  hold := dn_holds X G c
  choices := dn_choices X G c
  same := dn_same X G c
  right := dn_right X G c
  range := N_range X G c
  dict := N_dict X G c
  any := N_any X G c
abbrev lawLevel : Nat := 12
theorem law_of (X : K.In h) (G : h.Ns mainGlobals mg) (c : Says K) {f : Addr} {fd : FuncData} (F : Fun K "law" "law" s_law f fd) : FnOk P w K mg base CX0 lawLevel f fd ["_law_script"] (spLaw K) := ok_law (lw_of X G c) F
end
end Cm

set_option Elab.async false
set_option linter.all false
set_option maxRecDepth 100000
set_option maxHeartbeats 8000000
namespace Cm
open PySem PySem.Spec PyProof.Rows L2 Kv
theorem facts {P : Program} {w : World} {K : PySem.W.Frag} {h : Heap} {mg : Str → Option Value} {fL : Addr} (X : K.In h) (G : h.Ns mainGlobals mg) (hL : mg ("law" : Str) = some (.ref fL)) (c : Says K) :
    ∃ fd : FuncData, (∀ (s : Shared) (v : Value), BindsTo s fd ⟨[v], []⟩ [("_law_script", v)]) ∧ ∀ base : Heap, K.In base → base.Ns mainGlobals mg → FnOk P w K mg base CX0 lawLevel fL fd ["_law_script"] (spLaw K) := by
  obtain ⟨fd, F, b, m⟩ := D_law X G c
  have e := hL.symm.trans m
  cases e
  refine ⟨fd, fun s v => ?_, fun base _ _ => law_of X G c F⟩
  obtain ⟨oc, od, kV, doc, pm, an, cdv, ct, osl, rfl, lk, hcd⟩ := F.ex
  exact .of_eq rfl
end Cm
open PySem PySem.W PySem.Calls PyProof.Rows
theorem PySem.Challenge.cw_deedmeanings_k02_says_told_holds : PySem.Challenge.rw_deedmeanings_k02_says_told.Holds := by
  w_on; o_law
  refine HandSHeadRun.head_any (r := Cm.RwH) (q := view Cm.RwH.prog [Cm.lawAt]) (H := Cm.hk) (ob := Cm.ob) (M := 9000) (loose := Cm.loose) (d := HandSHeadRun.topDef Cm.RwH.prog Cm.lawAt) (kwd := []) (Cm.obX_eq _ _ _)
    (by kernel_rfl) (fun s => by kernel_rfl) Cm.run (by kernel_rfl) (by kernel_rfl) (by kernel_rfl) (by rfl) (by first | assumption | decide +kernel) (by decide +kernel) ⟨rfl, rfl, rfl, rfl, rfl, by decide +kernel⟩ ?hw ?hc
  case hw => w_witness2
  case hc =>
    refine L2.walk_ofE (l := PySem.Challenge.rw_deedmeanings_k02_says_told) (n := 63) (k := Cm.lawLevel) (x := "_law_script") (CX := L2.CX0) rfl (by decide) (by kernel_rfl) ⟨rfl, by decide, by decide⟩ ?F (fun _ _ _ _ z => z)
    intro w mg fa h Y G hmg0
    obtain ⟨K, KX, c⟩ := Y
    have hmg : mg ("law" : PySem.Str) = some (.ref fa) := by
      have e : (HandSHeadRun.topDef Cm.RwH.prog Cm.lawAt).name = ("law" : PySem.Str) := by kernel_rfl
      rw [← e]
      exact hmg0
    obtain ⟨fd, hb, hF⟩ := Cm.facts (P := (PySem.Challenge.rw_deedmeanings_k02_says_told).prog) (w := w) KX G hmg c
    exact ⟨K, fd, Cm.spLaw K, KX, hb, fun H a ns hl _ hS => ⟨a, ns, rfl, hS, hl, fun _ => rfl⟩, hF⟩
