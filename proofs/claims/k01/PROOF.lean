import PyProof.Rows.All
import Wide.All
import OpenK.AllK
import Wide.FinOn
import HandS.ForMost
import HandS.ForExc
import HandS.Wide
import HandS.Defaults
import HandS.IsInst
import HandS.Conv
import PySem.Challenge.RW_statementlots_k01_tables_made
import HandS.Text
import HandS.List
import HandS.Words
import HandS.Walk
import HandS.Dict
import PyProof.DictUpdate
import PyProof.MeetsSeq2
import HandS.Iter
import HandS.Sort
import PyProof.SumWalkG
import HandS.DictComp
import HandS.More
import KE.KEqDict
import HandS.ListItems
import HandS.OwnEq
import PyProof.InstNe
import OpenK.KMeth
import HandS.ExcInit
import HandS.ClsMeth
import HandS.ExcIs
import HandS.Head0
import HandS.Head1
import HandS.Head2
import HandS.HeadEnd
import HandS.HeadHook1
import HandS.HeadHook2
import PyProof.Rows.SortStr
import PyProof.Rows.StrMeet
import HandS.DeepEq
import HandS.WideBits
import HandS.Finally
import HandS.Style
/-! ## SlBase -/
set_option Elab.async false
set_option linter.all false
set_option maxRecDepth 100000
set_option maxHeartbeats 4000000
namespace Sl
open PySem PySem.Spec PyProof.Rows L2

/-- a def of the top that lets no exception out: what it promises, at most k levels deep -/
structure Cal (P : Program) (w : World) (K : PySem.W.Frag) (mg : Str → Option Value) (base : Heap) (k : Nat) (x : Str) (dvs : List V) (sp : Sp) : Prop where
  ex : ∃ (f : Addr) (fd : FuncData) (ps : List Str) (ds : List Value), mg x = some (.ref f) ∧ PySem.W.keepIn K (.ref f) = true ∧ FnOk P w K mg base CX0 k f fd ps sp ∧ Binds K fd ps ds ∧ Vals dvs ds
theorem pe_cal {X : Cx} {x : Str} {e : Expr} {es : List Expr} {p pos : Pos} {k : Nat} {dvs : List V} {sp : Sp} {t : TA} (h : Cal X.prog X.w X.K X.mg X.base k x dvs sp) (hr : Room k X.A) (ha : PA X (e :: es) t) (hg : Gl X x := by rfl)
    (hdb : (x == ("__debug__" : Str)) = false := by decide) (he : starEach (e :: es) X.env = (false, eval e X.env) :: starEach es X.env := by rfl) (hpl : (backTo pos (starEach es X.env)).any (·.1) = false := by rfl) :
    PE X (.Call (.Name x p) (e :: es) [] pos) (tCall sp dvs E0 t) := by
  obtain ⟨f, fd, ps, ds, hm, hk, F, hb, hd⟩ := h.ex
  exact pe_call F hr hg hm hk hb hd pass0 ha hdb he hpl

theorem atI_int {α : Type} {xs : List α} {j : Int} {v : α} (h0 : 0 ≤ j) (h : xs[j.toNat]? = some v) : atI xs j = some v := by
  have e := atI_nat h
  rwa [Int.toNat_of_nonneg h0] at e
/-! ### the source of draws -/
def SrcAt (H : Hp) (p : Addr) (n : Nat) : Prop := ∃ g s c : Int, H p = some (.lst [.int g, .int s, .int c]) ∧ 0 ≤ s ∧ s < 2147483647 ∧ 0 ≤ c ∧ c ≤ n
/-- all but p stands -/
def Keep (p : Addr) (H H' : Hp) : Prop := ∀ b o, b ≠ p → H b = some o → H' b = some o
theorem Keep.refl (p : Addr) (H : Hp) : Keep p H H := fun _ _ _ h => h
theorem Keep.trans {p : Addr} {H H1 H2 : Hp} (a : Keep p H H1) (b : Keep p H1 H2) : Keep p H H2 := fun c o n h => b c o n (a c o n h)
theorem Keep.upd {p : Addr} {H : Hp} {o : HO} : Keep p H (upd H p o) := fun b u n h => by rw [upd_ne n]; exact h
theorem Keep.new {p q : Addr} {H : Hp} {o : HO} (hq : H q = none) : Keep p H (L2.upd H q o) := fun b u n h => by rw [upd_ne (ne_of_none h hq)]; exact h
theorem Keep.seq {K : PySem.W.Frag} {p a : Addr} {H H' : Hp} {xs : List V} (k : Keep p H H') (n : a ≠ p) (h : SqL K H a xs) : SqL K H' a xs := by
  rcases h with (h | ⟨o, h⟩) | h
  · exact .inl (.inl (k _ _ n h))
  · exact .inl (.inr ⟨o, k _ _ n h⟩)
  · exact .inr h
theorem SrcAt.mono {H : Hp} {p : Addr} {n m : Nat} (h : SrcAt H p n) (l : n ≤ m) : SrcAt H p m := by
  obtain ⟨g, s, c, e, a1, a2, a3, a4⟩ := h
  exact ⟨g, s, c, e, a1, a2, a3, by omega⟩
theorem SrcAt.there {H : Hp} {p : Addr} {n : Nat} (h : SrcAt H p n) : ∃ o, H p = some o := let ⟨_, _, _, e, _⟩ := h; ⟨_, e⟩
theorem SrcAt.new {H : Hp} {p q : Addr} {n : Nat} {o : HO} (h : SrcAt H p n) (hq : H q = none) : SrcAt (L2.upd H q o) p n := by
  obtain ⟨g, s, c, e, a⟩ := h
  exact ⟨g, s, c, by rw [upd_ne (ne_of_none e hq)]; exact e, a⟩
theorem Keep.free {p q : Addr} {H H' : Hp} (k : Keep p H H') (hp : ∃ o, H' p = some o) (hq : H' q = none) : H q = none := by
  cases e : H q with
  | none => rfl
  | some u =>
    by_cases z : q = p
    · subst z
      obtain ⟨o, ho⟩ := hp
      rw [hq] at ho
      cases ho
    · rw [k q u z e] at hq
      cases hq

def sp_draw : Sp := fun vs H Q _ => ∃ (p : Addr) (m : Int) (n : Nat), vs = [.ref p, .int m] ∧ SrcAt H p n ∧ n ≤ 100000 ∧ 0 < m ∧ m < 2 ^ 200 ∧
  ∀ (k : Int) (H' : Hp), 0 ≤ k → k < m → SrcAt H' p (n + 1) → Keep p H H' → Q (.int k) H'
def sp_source (K : PySem.W.Frag) : Sp := fun vs H Q _ => ∃ (a : Addr) (ns : List Int), vs = [.ref a] ∧ SqL K H a (ns.map V.int) ∧ ns.length ≤ 63 ∧
  ∀ (p : Addr) (H' : Hp), H p = none → SrcAt H' p 0 → (∀ b o, H b = some o → H' b = some o) → Q (.ref p) H'
end Sl
/-! ## HdText -/
set_option Elab.async false
set_option linter.all false
set_option maxRecDepth 100000
set_option maxHeartbeats 4000000
namespace Lw
open PySem PySem.Spec PyProof.Rows L2 Sl
def top (i : Nat) : Stmt := PySem.Challenge.pw_statementlots_k01_tables_made.main.body.getD i (.Pass ⟨0, 0, 0, 0⟩)
abbrev s_shown : Stmt := top 2
/-- slots: 0 field -/
theorem sc_shown : FnScope ["field"] ["field"] (defScope s_shown) := ⟨rfl, rfl, rfl, by decide +kernel, rfl, by decide +kernel, by decide +kernel⟩
abbrev s_LotError___init__ : Stmt := inClass (top 3) 0
/-- slots: 0 self 1 field -/
theorem sc_LotError___init__ : FnScope ["self", "field"] ["self", "field"] (defScope s_LotError___init__) := ⟨rfl, rfl, rfl, by decide +kernel, rfl, by decide +kernel, by decide +kernel⟩
abbrev s_BadTable___init__ : Stmt := inClass (top 4) 0
/-- slots: 0 self 1 name -/
theorem sc_BadTable___init__ : FnScope ["self", "name"] ["self", "name"] (defScope s_BadTable___init__) := ⟨rfl, rfl, rfl, by decide +kernel, rfl, by decide +kernel, by decide +kernel⟩
abbrev s_is_name : Stmt := top 8
/-- slots: 0 thing 1 letter -/
theorem sc_is_name : FnScope ["thing", "letter"] ["thing"] (defScope s_is_name) := ⟨rfl, rfl, rfl, by decide +kernel, rfl, by decide +kernel, by decide +kernel⟩
abbrev s_is_integer : Stmt := top 9
/-- slots: 0 thing -/
theorem sc_is_integer : FnScope ["thing"] ["thing"] (defScope s_is_integer) := ⟨rfl, rfl, rfl, by decide +kernel, rfl, by decide +kernel, by decide +kernel⟩
abbrev s_is_list : Stmt := top 10
/-- slots: 0 thing -/
theorem sc_is_list : FnScope ["thing"] ["thing"] (defScope s_is_list) := ⟨rfl, rfl, rfl, by decide +kernel, rfl, by decide +kernel, by decide +kernel⟩
abbrev s_pairs_of : Stmt := top 11
/-- slots: 0 thing -/
theorem sc_pairs_of : FnScope ["thing"] ["thing"] (defScope s_pairs_of) := ⟨rfl, rfl, rfl, by decide +kernel, rfl, by decide +kernel, by decide +kernel⟩
abbrev s_sums : Stmt := top 12
/-- slots: 0 one 1 other 2 name -/
theorem sc_sums : FnScope ["one", "other", "name"] ["one", "other"] (defScope s_sums) := ⟨rfl, rfl, rfl, by decide +kernel, rfl, by decide +kernel, by decide +kernel⟩
abbrev s_named_integers : Stmt := top 14
/-- slots: 0 told 1 may_be_negative 2 pairs 3 name 4 number -/
theorem sc_named_integers : FnScope ["told", "may_be_negative", "pairs", "name", "number"] ["told", "may_be_negative"] (defScope s_named_integers) := ⟨rfl, rfl, rfl, by decide +kernel, rfl, by decide +kernel, by decide +kernel⟩
abbrev s_Table___init__ : Stmt := inClass (top 15) 0
/-- slots: 0 self 1 rows 2 counters -/
theorem sc_Table___init__ : FnScope ["self", "rows", "counters"] ["self", "rows", "counters"] (defScope s_Table___init__) := ⟨rfl, rfl, rfl, by decide +kernel, rfl, by decide +kernel, by decide +kernel⟩
abbrev s_Table___eq__ : Stmt := inClass (top 15) 1
/-- slots: 0 self 1 other -/
theorem sc_Table___eq__ : FnScope ["self", "other"] ["self", "other"] (defScope s_Table___eq__) := ⟨rfl, rfl, rfl, by decide +kernel, rfl, by decide +kernel, by decide +kernel⟩
abbrev s_Table___add__ : Stmt := inClass (top 15) 2
/-- slots: 0 self 1 other -/
theorem sc_Table___add__ : FnScope ["self", "other"] ["self", "other"] (defScope s_Table___add__) := ⟨rfl, rfl, rfl, by decide +kernel, rfl, by decide +kernel, by decide +kernel⟩
abbrev s_Table_rows : Stmt := inClass (top 15) 3
/-- slots: 0 self 1 kind -/
theorem sc_Table_rows : FnScope ["self", "kind"] ["self", "kind"] (defScope s_Table_rows) := ⟨rfl, rfl, rfl, by decide +kernel, rfl, by decide +kernel, by decide +kernel⟩
abbrev s_Table_worth : Stmt := inClass (top 15) 4
/-- slots: 0 self 1 counter -/
theorem sc_Table_worth : FnScope ["self", "counter"] ["self", "counter"] (defScope s_Table_worth) := ⟨rfl, rfl, rfl, by decide +kernel, rfl, by decide +kernel, by decide +kernel⟩
abbrev s_Table_row_kinds : Stmt := inClass (top 15) 5
/-- slots: 0 self -/
theorem sc_Table_row_kinds : FnScope ["self"] ["self"] (defScope s_Table_row_kinds) := ⟨rfl, rfl, rfl, by decide +kernel, rfl, by decide +kernel, by decide +kernel⟩
abbrev s_Table_counter_names : Stmt := inClass (top 15) 6
/-- slots: 0 self -/
theorem sc_Table_counter_names : FnScope ["self"] ["self"] (defScope s_Table_counter_names) := ⟨rfl, rfl, rfl, by decide +kernel, rfl, by decide +kernel, by decide +kernel⟩
abbrev s_Table_size : Stmt := inClass (top 15) 7
/-- slots: 0 self -/
theorem sc_Table_size : FnScope ["self"] ["self"] (defScope s_Table_size) := ⟨rfl, rfl, rfl, by decide +kernel, rfl, by decide +kernel, by decide +kernel⟩
abbrev s_l_source : Stmt := top 17
/-- slots: 0 _law_script 1 _law_great 2 _law_seed 3 _law_cell -/
theorem sc_l_source : FnScope ["_law_script", "_law_great", "_law_seed", "_law_cell"] ["_law_script"] (defScope s_l_source) := ⟨rfl, rfl, rfl, by decide +kernel, rfl, by decide +kernel, by decide +kernel⟩
abbrev s_l_draw : Stmt := top 18
/-- slots: 0 _law_source_here 1 _law_many 2 _law_digit 3 _law_mixed -/
theorem sc_l_draw : FnScope ["_law_source_here", "_law_many", "_law_digit", "_law_mixed"] ["_law_source_here", "_law_many"] (defScope s_l_draw) := ⟨rfl, rfl, rfl, by decide +kernel, rfl, by decide +kernel, by decide +kernel⟩
abbrev s_l_name : Stmt := top 19
/-- slots: 0 _law_source_here 1 _law_taken 2 _law_size 3 _law_name_here 4 _law_k 5 _law_sign 6 _law_one -/
theorem sc_l_name : FnScope ["_law_source_here", "_law_taken", "_law_size", "_law_name_here", "_law_k", "_law_sign", "_law_one"] ["_law_source_here", "_law_taken"] (defScope s_l_name) := ⟨rfl, rfl, rfl, by decide +kernel, rfl, by decide +kernel, by decide +kernel⟩
abbrev s_l_names : Stmt := top 20
/-- slots: 0 _law_source_here 1 _law_many 2 _law_names_here 3 _law_k -/
theorem sc_l_names : FnScope ["_law_source_here", "_law_many", "_law_names_here", "_law_k"] ["_law_source_here", "_law_many"] (defScope s_l_names) := ⟨rfl, rfl, rfl, by decide +kernel, rfl, by decide +kernel, by decide +kernel⟩
abbrev s_l_big : Stmt := top 21
/-- slots: 0 _law_source_here -/
theorem sc_l_big : FnScope ["_law_source_here"] ["_law_source_here"] (defScope s_l_big) := ⟨rfl, rfl, rfl, by decide +kernel, rfl, by decide +kernel, by decide +kernel⟩
abbrev s_l_lists : Stmt := top 22
/-- slots: 0 _law_source_here 1 _law_names_here 2 _law_numbers 3 _law_name_here -/
theorem sc_l_lists : FnScope ["_law_source_here", "_law_names_here", "_law_numbers", "_law_name_here"] ["_law_source_here", "_law_names_here"] (defScope s_l_lists) := ⟨rfl, rfl, rfl, by decide +kernel, rfl, by decide +kernel, by decide +kernel⟩
abbrev s_l_less : Stmt := top 23
/-- slots: 0 _law_numbers 1 _law_name_here -/
theorem sc_l_less : FnScope ["_law_numbers", "_law_name_here"] ["_law_numbers"] (defScope s_l_less) := ⟨rfl, rfl, rfl, by decide +kernel, rfl, by decide +kernel, by decide +kernel⟩
abbrev s_l_is_right : Stmt := top 24
/-- slots: 0 _law_table 1 _law_numbers 2 _law_worths 3 _law_odd 4 _law_name_here -/
theorem sc_l_is_right : FnScope ["_law_table", "_law_numbers", "_law_worths", "_law_odd", "_law_name_here"] ["_law_table", "_law_numbers", "_law_worths"] (defScope s_l_is_right) := ⟨rfl, rfl, rfl, by decide +kernel, rfl, by decide +kernel, by decide +kernel⟩
abbrev s_law : Stmt := top 25
/-- slots: 0 _law_script 1 _law_source_here 2 _law_names_here 3 _law_numbers 4 _law_worths 5 _law_handed 6 _law_told 7 _law_table 8 _law_more 9 _law_rest 10 _law_other 11 _law_same 12 _law_both 13 _law_ends 14 _law_name_here -/
theorem sc_law : FnScope ["_law_script", "_law_source_here", "_law_names_here", "_law_numbers", "_law_worths", "_law_handed", "_law_told", "_law_table", "_law_more", "_law_rest", "_law_other", "_law_same", "_law_both", "_law_ends", "_law_name_here"] ["_law_script"] (defScope s_law) := ⟨rfl, rfl, rfl, by decide +kernel, rfl, by decide +kernel, by decide +kernel⟩
end Lw
/-! ## Src -/
set_option Elab.async false
set_option linter.all false
set_option maxRecDepth 100000
set_option maxHeartbeats 4000000
namespace Lw
open PySem PySem.Spec PyProof.Rows L2 Sl
section
variable {P : Program} {w : World} {K : PySem.W.Frag} {mg : Str → Option Value} {base : Heap} {f : Addr} {fd : FuncData}
abbrev FnP (K : PySem.W.Frag) (x : Str) (st : Stmt) (dvs : List V) (f : Addr) (fd : FuncData) : Prop := FunD K x x (defArgs st) (defBody st) (defScope st) dvs [] f fd
theorem ok_draw (F : FnP K "_law_draw" s_l_draw [] f fd) (mInt : mg "int" = none) : FnOk P w K mg base CX0 1 f fd ["_law_source_here", "_law_many"] sp_draw := by
  refine F.ok sc_l_draw (fun vs H Q E h => ?_) (fun cdv A outer s H vs Q E hr h => ?_)
  · obtain ⟨p, m, n, rfl, _⟩ := h
    rfl
  · obtain ⟨p, m, n, rfl, ⟨g, sd, c, hp, s0, s1, c0, c1⟩, hn, hm, hm2, k⟩ := h
    have nd := sc_l_draw.nd
    refine ⟨_, PSs.nox (pss_cons (ps_asg (pe_op op_add (pe_ix ix_list (pv 0) pe_int (fun _ _ => rfl)) pe_int) (pg_sub (pv 0) pe_int set_list))
      (pss_cons (ps_if (pt_cmpR op_gt (pe_ix ix_list (pv 0) pe_int (fun _ _ => rfl)) pe_int (nomark _))
        (pss_cons (ps_set (i := 2) nd rfl (.inl rfl) (pe_op op_mod (pe_callTy call_int1 (by rfl) mInt boot_int (pa_cons (pe_ix ix_list (pv 0) pe_int (fun _ _ => rfl)) pa_nil)) (pv 1)))
        (pss_cons (ps_asg (pe_op op_fdivW (pe_ix ix_list (pv 0) pe_int (fun _ _ => rfl)) (pv 1)) (pg_sub (pv 0) pe_int set_list))
        (pss_one (ps_ret (pv 2))))) pss_nil)
      (pss_cons (ps_set (i := 3) nd rfl (.inl rfl) (pe_op op_mod (pe_op op_pow (pe_op op_add (pe_ix ix_list (pv 0) pe_int (fun _ _ => rfl)) (pe_op op_mul pe_int (pe_ix ix_list (pv 0) pe_int (fun _ _ => rfl)))) pe_int) pe_int))
      (pss_one (ps_ret (pe_op op_mod (pe_op op_mod (pe_op op_pow (pe_op op_add (pe_op op_add (pe_op op_mul (pv 3) pe_int) (pe_op op_mul (pe_op op_mul pe_int (pe_ix ix_list (pv 0) pe_int (fun _ _ => rfl))) (pe_ix ix_list (pv 0) pe_int (fun _ _ => rfl)))) pe_int) pe_int) pe_int) (pv 1))))))), ?_⟩
    refine ⟨_, rfl, p, _, _, _, rfl, rfl, SqL.of hp, rfl, _, _, rfl, rfl, _, rfl, p, _, _, 2, rfl, rfl, hp, rfl, ?_⟩
    have h1 : (upd H p (.lst [V.int g, V.int sd, V.int (c + 1)])) p = some (.lst [V.int g, V.int sd, V.int (c + 1)]) := upd_same
    refine ⟨_, rfl, p, _, _, _, rfl, rfl, SqL.of h1, rfl, _, _, rfl, rfl, _, rfl, ?_⟩
    refine ite2 (fun _ => ?_) (fun _ => ?_)
    · refine ⟨_, rfl, p, _, _, _, rfl, rfl, SqL.of h1, rfl, .inl ⟨_, rfl, _, rfl, _, _, rfl, rfl, hm, ?_⟩⟩
      refine ⟨_, rfl, p, _, _, _, rfl, rfl, SqL.of h1, rfl, _, rfl, _, _, rfl, rfl, wide_div (b := 200) hm (by omega) (by decide) (by decide), _, rfl, p, _, _, 0, rfl, rfl, h1, rfl, ?_⟩
      refine ⟨_, rfl, ?_⟩
      refine k _ _ (Int.emod_nonneg _ (by omega)) (Int.emod_lt_of_pos _ hm) ⟨g / m, sd, c + 1, upd_same, s0, s1, by omega, by omega⟩ ?_
      intro b o nb hb
      rw [upd_ne nb, upd_ne nb]
      exact hb
    · refine ⟨_, rfl, p, _, _, _, rfl, rfl, SqL.of h1, rfl, _, rfl, p, _, _, _, rfl, rfl, SqL.of h1, rfl, _, _, rfl, rfl, .inl (by decide), _, _, rfl, rfl, _, _, rfl, rfl, ⟨by decide, by decide, by omega⟩, _, _, rfl, rfl, (by show (0 : Int) < 2147483629; decide), ?_⟩
      generalize hz : (sd + 7919 * (c + 1)) ^ (5 : Int).toNat % 2147483629 = z
      have z0 : 0 ≤ z := by rw [← hz]; exact Int.emod_nonneg _ (by decide)
      have z1 : z < 2147483629 := by rw [← hz]; exact Int.emod_lt_of_pos _ (by decide)
      have cc : (16807 * (c + 1)) * (c + 1) ≤ 16807 * 100001 * 100001 := by
        exact Int.mul_le_mul (show 16807 * (c + 1) ≤ 16807 * 100001 by omega) (show c + 1 ≤ 100001 by omega) (by omega) (by omega)
      have cc0 : 0 ≤ (16807 * (c + 1)) * (c + 1) := Int.mul_nonneg (by omega) (by omega)
      refine ⟨_, rfl, _, _, rfl, rfl, .inr (by decide), _, rfl, p, _, _, _, rfl, rfl, SqL.of h1, rfl, _, _, rfl, rfl, .inl (by decide), _, rfl, p, _, _, _, rfl, rfl, SqL.of h1, rfl, _, _, rfl, rfl, .inl ⟨by omega, by omega⟩, _, _, rfl, rfl, _, _, rfl, rfl, _, _, rfl, rfl, ⟨by decide, by decide, by omega⟩, _, _, rfl, rfl, (by show (0 : Int) < 1000000007; decide), _, rfl, _, _, rfl, rfl, hm, ?_⟩
      refine k _ _ (Int.emod_nonneg _ (by omega)) (Int.emod_lt_of_pos _ hm) ⟨g, sd, c + 1, h1, s0, s1, by omega, by omega⟩ Keep.upd
end
end Lw
/-! ## Src2 -/
set_option Elab.async false
set_option linter.all false
set_option maxRecDepth 100000
set_option maxHeartbeats 4000000
namespace Lw
open PySem PySem.Spec PyProof.Rows L2 Sl
section
variable {P : Program} {w : World} {K : PySem.W.Frag} {mg : Str → Option Value} {base : Heap} {f : Addr} {fd : FuncData}
theorem ok_source (F : FnP K "_law_source" s_l_source [] f fd) (mInt : mg "int" = none) : FnOk P w K mg base CX0 1 f fd ["_law_script"] (sp_source K) := by
  refine F.ok sc_l_source (fun vs H Q E h => ?_) (fun cdv A outer s H vs Q E hr h => ?_)
  · obtain ⟨a, ns, rfl, _⟩ := h
    rfl
  · obtain ⟨a, ns, rfl, hS, hl, k⟩ := h
    have nd := sc_l_source.nd
    refine ⟨_, PSs.nox (pss_cons (ps_asg (pe_tup (pa_cons pe_int (pa_cons pe_int pa_nil))) (pg_tup rfl (pgs_cons (pg_name (i := 1) nd rfl (.inl rfl)) (pgs_cons (pg_name (i := 2) nd rfl (.inl rfl)) pgs_nil))))
      (pss_cons (ps_for PassesOwn.never rfl (pi_list (pv 0)) (pg_name (i := 3) nd rfl (Or.inl rfl))
        (pss_cons (ps_if (PW.pt (pw_and (pt_cmpR op_eq (pv 1) pe_int (nomark _)) (pw_and1 (pt_cmpR op_ge (pv 3) (pe_op op_pow pe_int pe_int) (nomark _)))))
          (pss_one (ps_set (i := 1) nd rfl (.inl rfl) (pv 3))) pss_nil)
        (pss_one (ps_set (i := 2) nd rfl (.inl rfl) (pe_op op_mod (pe_callTy call_int1 (by rfl) mInt boot_int (pa_cons (pe_op op_add (pe_op op_add (pe_op op_mul (pv 2) pe_int) (pv 3)) pe_int) pa_nil)) pe_int)))))
      (pss_one (ps_ret (pe_lst (pa_cons (pv 1) (pa_cons (pv 2) (pa_cons pe_int pa_nil)))))))), ?_⟩
    refine ⟨(by show 2 ≤ sizeLine; decide), fun t ht => ?_⟩
    refine ⟨t, _, rfl, SqT.of upd_same, rfl, _, _, rfl, _, _, rfl, rfl, ?_⟩
    have s1 : Same H (upd H t (.tup [V.int 0, V.int 17])) := fun b o e => by
      rw [upd_ne (ne_of_none e ht)]
      exact e
    generalize hH : upd H t (.tup [V.int 0, V.int 17]) = H1 at s1
    refine ⟨_, rfl, a, rfl, ⟨_, s1.seq hS⟩, for_list (K := K) (a := a) (xs := ns.map V.int) (fun i σ H2 => ∃ (g sd : Int) (v : Option V), σ = [some (.ref a), some (.int g), some (.int sd), v] ∧ H2 = H1 ∧ 0 ≤ sd ∧ sd < 2147483647)
      ⟨0, 17, none, rfl, rfl, by decide, by decide⟩ (fun i σ H2 _ ⟨_, _, _, _, e, _⟩ => by rw [e]; exact s1.seq hS) ?_ ?_⟩
    · rintro i y σ H2 hi ⟨g, sd, v, rfl, rfl, h0, h1⟩
      obtain ⟨z, rfl⟩ : ∃ z, y = V.int z := by
        rw [List.getElem?_map] at hi
        cases e : ns[i]? with
        | none =>
          rw [e] at hi
          cases hi
        | some z =>
          rw [e] at hi
          exact ⟨z, (Option.some.inj hi).symm⟩
      refine ⟨_, rfl, rfl, _, rfl, ?_⟩
      refine ite2 (fun hz => ?_) (fun hz => ?_)
      · refine ⟨_, rfl, _, _, rfl, rfl, ⟨by decide, by decide, by decide⟩, _, _, rfl, rfl, _, rfl, ?_⟩
        refine ite2 (fun _ => ?_) (fun _ => ?_)
        · refine ⟨_, rfl, ?_⟩
          refine ⟨_, rfl, _, _, rfl, rfl, .inl ⟨by omega, by omega⟩, _, rfl, _, _, rfl, rfl, _, _, rfl, rfl, .inl ⟨_, rfl, ?_⟩⟩
          refine ⟨_, _, rfl, rfl, (by show (0 : Int) < 2147483647; decide), ?_⟩
          exact ⟨_, _, _, rfl, rfl, Int.emod_nonneg _ (by decide), Int.emod_lt_of_pos _ (by decide)⟩
        · refine ⟨_, rfl, _, _, rfl, rfl, .inl ⟨by omega, by omega⟩, _, rfl, _, _, rfl, rfl, _, _, rfl, rfl, .inl ⟨_, rfl, ?_⟩⟩
          refine ⟨_, _, rfl, rfl, (by show (0 : Int) < 2147483647; decide), ?_⟩
          exact ⟨_, _, _, rfl, rfl, Int.emod_nonneg _ (by decide), Int.emod_lt_of_pos _ (by decide)⟩
      · refine iteF ?_
        refine ⟨_, rfl, _, _, rfl, rfl, .inl ⟨by omega, by omega⟩, _, rfl, _, _, rfl, rfl, _, _, rfl, rfl, .inl ⟨_, rfl, ?_⟩⟩
        refine ⟨_, _, rfl, rfl, (by show (0 : Int) < 2147483647; decide), ?_⟩
        exact ⟨_, _, _, rfl, rfl, Int.emod_nonneg _ (by decide), Int.emod_lt_of_pos _ (by decide)⟩
    · rintro σ H2 ⟨g, sd, v, rfl, rfl, h0, h1⟩
      refine ⟨_, rfl, _, rfl, (by show 3 ≤ sizeLine; decide), fun p hp => ?_⟩
      refine k p _ (s1.free hp) ⟨g, sd, 0, upd_same, h0, h1, by omega, by omega⟩ fun b o hb => ?_
      rw [upd_ne (ne_of_none (s1 b o hb) hp)]
      exact s1 b o hb
end
end Lw
/-! ## NamA -/
set_option Elab.async false
set_option linter.all false
set_option maxRecDepth 100000
set_option maxHeartbeats 4000000
namespace Sl
open PySem PySem.Spec PyProof.Rows L2 TL
/-! ### names -/
abbrev alpha : Str := "abcdefghijklmnopqrstuvwxyz"
def letB (c : Nat) : Bool := decide (c ∈ alpha.cps.toList)
def nameB (z : Str) : Bool := decide (1 ≤ z.length) && (decide (z.length ≤ 8) && z.cps.toList.all letB)
theorem nameB_of {z : Str} (h1 : 1 ≤ z.length) (h2 : z.length ≤ 8) (h3 : ∀ c ∈ z.cps.toList, letB c = true) : nameB z = true := by
  unfold nameB
  rw [decide_eq_true h1, decide_eq_true h2, List.all_eq_true.mpr h3]
  rfl
theorem nameB_len {z : Str} (h : nameB z = true) : 1 ≤ z.length ∧ z.length ≤ 8 := by
  unfold nameB at h
  simp only [Bool.and_eq_true, decide_eq_true_eq] at h
  exact ⟨h.1, h.2.1⟩
theorem nameB_all {z : Str} (h : nameB z = true) : ∀ c ∈ z.cps.toList, letB c = true := by
  unfold nameB at h
  simp only [Bool.and_eq_true, decide_eq_true_eq] at h
  exact List.all_eq_true.mp h.2.2
/-- the text of these signs -/
def oneS (c : Nat) : Str := ⟨#[c]⟩
theorem joinL_ones : ∀ cs : List Nat, joinL [] ((cs.map oneS).map tl) = cs
  | [] => rfl
  | [_] => rfl
  | x :: z :: r => by
    show [x] ++ ([] ++ joinL [] (((z :: r).map oneS).map tl)) = x :: z :: r
    rw [joinL_ones (z :: r)]
    rfl
theorem join_ones (cs : List Nat) : Txt.join (⟨#[]⟩ : Str) (cs.map oneS) = ⟨cs.toArray⟩ := by
  rw [join_eq]
  refine ext_tl ?_
  rw [tl_join]
  show joinL [] _ = cs.toArray.toList
  rw [joinL_ones]
theorem join_none (cs : List Nat) : Txt.join (Str.ofString "") (cs.map oneS) = ⟨cs.toArray⟩ := Sl.join_ones cs
theorem inV_str {x : Str} {xs : List Str} : inV (.str x) (xs.map V.str) = decide (x ∈ xs) := by
  induction xs with
  | nil => rfl
  | cons y ys ih =>
    show (eqV (.str y) (.str x) || inV (.str x) (ys.map V.str)) = _
    rw [ih]
    show ((y == x) || decide (x ∈ ys)) = decide (x ∈ y :: ys)
    by_cases h : y = x
    · subst h
      simp
    · have h' : (y == x) = false := by simpa using h
      rw [h']
      have h2 : x ≠ y := fun e => h e.symm
      simp [h2]
theorem flat_strs (xs : List Str) : (xs.map V.str).all flatV = true := by
  rw [List.all_map]
  exact List.all_eq_true.mpr fun _ _ => rfl
/-- more than can be found there -/
theorem one_not_in {α : Type} [DecidableEq α] : ∀ (xs ys : List α), xs.Nodup → ys.length < xs.length → ∃ x, x ∈ xs ∧ x ∉ ys
  | [], ys, _, h => absurd h (Nat.not_lt_zero _)
  | x :: xs, ys, hn, h => by
    by_cases hx : x ∈ ys
    · obtain ⟨h1, h2⟩ := List.nodup_cons.mp hn
      have hl : (ys.erase x).length < xs.length := by
        rw [List.length_erase_of_mem hx]
        have := List.length_pos_of_mem hx
        simp only [List.length_cons] at h
        omega
      obtain ⟨z, hz, hny⟩ := one_not_in xs (ys.erase x) h2 hl
      refine ⟨z, List.mem_cons_of_mem _ hz, fun q => hny ?_⟩
      have ne : z ≠ x := fun e => h1 (e ▸ hz)
      exact (List.mem_erase_of_ne ne).mpr q
    · exact ⟨x, List.mem_cons_self, hx⟩
theorem tl_cut1 {z : Str} (h : 1 ≤ z.length) : tl (cutS z (some 1) none) = (tl z).drop 1 := by
  have e1 : HT.sIx z.length 0 (some 1) = 1 := by
    have : HT.sIx z.length 0 (some ((1 : Nat) : Int)) = 1 := by
      rw [HT.sIx_nat]
      omega
    exact this
  have e2 : HT.sIx z.length z.length none = z.length := rfl
  show ((z.cps.toList.drop (HT.sIx z.length 0 (some 1))).take (HT.sIx z.length z.length none - HT.sIx z.length 0 (some 1))).toArray.toList = _
  rw [e1, e2]
  show List.take (z.length - 1) (List.drop 1 (tl z)) = _
  rw [List.take_of_length_le]
  rw [List.length_drop, len_tl]
  omega
theorem tl_app (a b : Str) : tl (a ++ b) = tl a ++ tl b := by
  show (a.cps ++ b.cps).toList = _
  rw [Array.toList_append]
theorem nameB_q {z : Str} (h : nameB z = true) (h7 : z.length ≤ 8) : nameB (("q" : Str) ++ cutS z (some 1) none) = true := by
  have e : tl (("q" : Str) ++ cutS z (some 1) none) = 113 :: (tl z).drop 1 := by
    rw [tl_app, tl_cut1 (nameB_len h).1]
    rfl
  have l : (("q" : Str) ++ cutS z (some 1) none).length = 1 + ((tl z).drop 1).length := by
    rw [len_tl, e, List.length_cons]
    omega
  have lz := len_tl z
  refine nameB_of ?_ ?_ ?_
  · rw [l]
    omega
  · rw [l, List.length_drop]
    have := (nameB_len h).1
    omega
  · intro c hc
    rw [show (("q" : Str) ++ cutS z (some 1) none).cps.toList = 113 :: (tl z).drop 1 from e] at hc
    rcases List.mem_cons.mp hc with h1 | h1
    · subst h1
      decide +kernel
    · exact nameB_all h c (List.mem_of_mem_drop h1)
theorem sum_ones : ∀ cs : List Nat, ((cs.map oneS).map (fun z : Str => z.length)).sum = cs.length
  | [] => rfl
  | c :: r => by
    show (oneS c).length + ((r.map oneS).map (fun z : Str => z.length)).sum = r.length + 1
    rw [sum_ones r]
    show 1 + r.length = r.length + 1
    omega
abbrev rAddS : R2 := fun x y H Q => ∃ i j, x = .str i ∧ y = .str j ∧ i.length + j.length ≤ sizeLine ∧ Q (.str (i ++ j)) H
def zs : List Str := alpha.cps.toList.map fun c => ("z" : Str) ++ oneS c
theorem zs_nodup : zs.Nodup := by decide +kernel
theorem zs_names : zs.all nameB = true := by decide +kernel
theorem zs_len : zs.length = 26 := by decide +kernel
/-- what a drawn name may be -/
def sixW : List Str := ["old", "new", "do", "add", "set", "refuse"]
def drawn (z : Str) : Prop := nameB z = true ∧ (z.length ≤ 3 ∨ z.length = 8 ∨ z ∈ sixW ∨ ∃ r, tl z = 113 :: r)
theorem zs_drawn : ∀ z ∈ zs, drawn z := fun z hz => by
  have h := List.all_eq_true.mp (show (zs.all fun z => nameB z && decide (z.length ≤ 3)) = true by decide +kernel) z hz
  obtain ⟨h1, h2⟩ := Bool.and_eq_true_iff.mp h
  exact ⟨h1, .inl (of_decide_eq_true h2)⟩
theorem drawn_q {z : Str} (h : nameB z = true) (h7 : z.length ≤ 8) : drawn (("q" : Str) ++ cutS z (some 1) none) := by
  refine ⟨nameB_q h h7, .inr (.inr (.inr ⟨(tl z).drop 1, ?_⟩))⟩
  rw [tl_app, tl_cut1 (nameB_len h).1]
  rfl
/-- not drawn: four to seven signs, none of the six, no q ahead -/
theorem not_drawn {z : Str} (h1 : ¬ z.length ≤ 3) (h2 : z.length ≠ 8) (h3 : z ∉ sixW) (h4 : ∀ r, tl z ≠ 113 :: r) : ¬ drawn z := fun ⟨_, h⟩ => by
  rcases h with h | h | h | ⟨r, h⟩
  · exact h1 h
  · exact h2 h
  · exact h3 h
  · exact h4 r h
theorem nobody_not : ¬ drawn "nobody" := not_drawn (by decide +kernel) (by decide +kernel) (by decide +kernel) (fun r e => by
  have : (tl ("nobody" : Str)).head? = some 113 := by rw [e]; rfl
  exact absurd this (by decide +kernel))
theorem late_not : ¬ drawn "late" := not_drawn (by decide +kernel) (by decide +kernel) (by decide +kernel) (fun r e => by
  have : (tl ("late" : Str)).head? = some 113 := by rw [e]; rfl
  exact absurd this (by decide +kernel))
/-! ### draws, read -/
theorem at_in {α : Type} {xs : List α} {j : Int} (h0 : 0 ≤ j) (h1 : j < (xs.length : Int)) : ∃ v, atI xs j = some v ∧ v ∈ xs := by
  have hj : j.toNat < xs.length := by omega
  exact ⟨xs[j.toNat], atI_int h0 (List.getElem?_eq_getElem hj), List.getElem_mem hj⟩
theorem draw_of {σ : L2.St} {H : Hp} {Q : VK} {i : Nat} {m : Int} {n : Nat} {p : Addr} (h : σ[i]? = some (some (.ref p))) (hp : SrcAt H p n) (hn : n ≤ 100000) (h0 : 0 < m) (h1 : m < 2 ^ 200)
    (k : ∀ (j : Int) (H' : Hp), 0 ≤ j → j < m → SrcAt H' p (n + 1) → Keep p H H' → Q (.int j) H') : tCall sp_draw [] E0 (tCons (tVar i) (tCons (tC (.int m)) tNil)) σ H Q :=
  ⟨_, h, p, m, n, rfl, hp, hn, h0, h1, k⟩
theorem same_new {H : Hp} {p : Addr} {o : HO} (hp : H p = none) : Same H (L2.upd H p o) := fun b u e => by
  rw [upd_ne (ne_of_none e hp)]
  exact e
theorem sq_same {K : PySem.W.Frag} {a : Addr} {H H' : Hp} {xs : List V} (h : SqL K H a xs) (k : Same H H') : SqL K H' a xs := by
  rcases h with (h | ⟨o, h⟩) | h
  · exact .inl (.inl (k _ _ h))
  · exact .inl (.inr ⟨o, k _ _ h⟩)
  · exact .inr h
theorem alpha_size : alpha.cps.size = 26 := by decide +kernel
theorem Keep.of_same {p : Addr} {H H' : Hp} (h : Same H H') : Keep p H H' := fun b o _ e => h b o e
theorem asg_of {te : TE} {i : Nat} {u : TS} {D : Ends} {σ : L2.St} {H : Hp} (h : te σ H fun x H1 => u D (σ.set i (some x)) H1) : tSeq (tAsg te (gName i)) u D σ H := h
theorem ifs_of {c : TT} {t u v : TS} {D : Ends} {σ : L2.St} {H : Hp} (h : c σ H fun b H1 => if b = true then t { D with nx := v D } σ H1 else u { D with nx := v D } σ H1) : tSeq (tIfS c t u) v D σ H := h
theorem or_of {A B : TT} {σ : L2.St} {H : Hp} {Q : Bool → Hp → Prop} (h : A σ H fun c H1 => if c = true then Q true H1 else B σ H1 Q) : tOr A B σ H Q := h
theorem test_of {r : R2} {ta tb : TE} {σ : L2.St} {H : Hp} {Q : Bool → Hp → Prop} (h : ta σ H fun x H1 => tb σ H1 fun y H2 => r x y H2 fun x H' => ∃ k, x = .bl k ∧ Q k H') : tTest (tOp r ta tb) σ H Q := h
theorem nx_of {v : TS} {D D' : Ends} {σ : L2.St} {H : Hp} (h : v D σ H) : tNext { D' with nx := v D } σ H := h
theorem yes_of {σ : L2.St} {H : Hp} {Q : Bool → Hp → Prop} (h : Q true H) : tYes σ H Q := h
theorem ite_of {P1 P2 : Prop} {c : Bool} (h1 : c = true → P1) (h2 : c = false → P2) : if c = true then P1 else P2 := by
  cases c with
  | true => exact iteT (h1 rfl)
  | false => exact iteF (h2 rfl)

theorem TyX.same {K : PySem.W.Frag} {H H' : Hp} {v : V} {t : Value} (h : TyX K H v t) (k : Same H H') : TyX K H' v t := by
  cases h with
  | base b =>
    cases b with
    | non => exact .base .non
    | bl y => exact .base (.bl y)
    | int i => exact .base (.int i)
    | str y => exact .base (.str y)
    | flt y => exact .base (.flt y)
    | lst e => exact .base (.lst (k _ _ e))
    | frz e => exact .base (.frz (k _ _ e))
    | tup e => exact .base (.tup (k _ _ e))
    | dK e => exact .base (.dK (k _ _ e))
    | dT e => exact .base (.dT (k _ _ e))
    | ins e cl ha hn htk hm => exact .base (.ins (k _ _ e) cl ha hn htk hm)
  | byt y => exact .byt y
  | set e => exact .set (k _ _ e)
  | kList e c => exact .kList e c
  | kTuple e c => exact .kTuple e c
  | kDict e c => exact .kDict e c
  | fTuple e => exact .fTuple (k _ _ e)
  | fDict e => exact .fDict (k _ _ e)
end Sl
/-! ## NamB -/
set_option Elab.async false
set_option linter.all false
set_option maxRecDepth 100000
set_option maxHeartbeats 8000000
namespace Lw
open PySem PySem.Spec PyProof.Rows L2 Sl
section
variable {P : Program} {w : World} {K : PySem.W.Frag} {mg : Str → Option Value} {base : Heap} {f : Addr} {fd : FuncData}
def sp_name (K : PySem.W.Frag) : Sp := fun vs H Q _ => ∃ (p q : Addr) (xs : List Str) (n : Nat), vs = [.ref p, .ref q] ∧ SrcAt H p n ∧ n ≤ 99000 ∧ SqL K H q (xs.map V.str) ∧ q ≠ p ∧ xs.length ≤ 25 ∧
  ∀ (z : Str) (H' : Hp), drawn z → z ∉ xs → SrcAt H' p (n + 10) → Keep p H H' → Q (.str z) H'
abbrev nameN : List Str := ["_law_source_here", "_law_taken", "_law_size", "_law_name_here", "_law_k", "_law_sign", "_law_one"]
theorem ok_name (F : FnP K "_law_name" s_l_name [] f fd) (D : Cal P w K mg base 1 "_law_draw" [] sp_draw) (mR : mg "range" = none) : FnOk P w K mg base CX0 2 f fd ["_law_source_here", "_law_taken"] (sp_name K) := by
  refine F.ok sc_l_name (fun vs H Q E h => ?_) (fun cdv A outer s H vs Q E hr h => ?_)
  · obtain ⟨p, q, xs, n, rfl, _⟩ := h
    rfl
  · obtain ⟨p, q, xs, n, rfl, hp, hn, hq, ne, hx, k⟩ := h
    have nd := sc_l_name.nd
    refine ⟨_, PSs.nox (pss_cons (ps_set (i := 2) nd rfl (.inl rfl) (pe_ix ix_list (pe_lst (pa_cons pe_int (pa_cons pe_int (pa_cons pe_int (pa_cons pe_int (pa_cons pe_int (pa_cons pe_int (pa_cons pe_int (pa_cons pe_int (pa_cons pe_int (pa_cons pe_int (pa_cons pe_int (pa_cons pe_int (pa_cons pe_int pa_nil))))))))))))))
        (pe_cal D hr (pa_cons (pv 0) (pa_cons pe_int pa_nil))) (fun _ _ => rfl)))
      (pss_cons (ps_set (i := 3) nd rfl (.inl rfl) (pe_join pe_str (pe_lc (own := [("_law_k", 4)]) (g := gName 4) (tt := tYes) rfl nd (pi_range1 (by rfl) mR (pa_cons (pv 2) pa_nil)) (blkOk_by (N := nameN) (sc := defScope s_l_name) (by decide +kernel)) (fun _ _ _ _ _ => pg_name (i := 4) nd rfl (Or.inl rfl)) (fun _ _ _ _ _ => pts_nil)
          (fun _ _ _ _ _ => pe_ix (r := rIxS) ix_str pe_str (pe_cal D hr (pa_cons (pv 0) (pa_cons pe_int pa_nil))) (fun _ _ => rfl)))))
      (pss_cons (ps_if (pt_chain op_lt op_lt pe_int (pv 2) pe_int)
          (pss_one (ps_set (i := 3) nd rfl (.inl rfl) (pe_ix ix_list (pe_lst (pa_cons pe_str (pa_cons pe_str (pa_cons pe_str (pa_cons pe_str (pa_cons pe_str (pa_cons pe_str (pa_cons (pe_op (r := rAddS) op_add_str pe_str (pe_slice sl_str (pv 3) (po_some pe_int) po_none)) pa_nil))))))))
            (pe_cal D hr (pa_cons (pv 0) (pa_cons pe_int pa_nil))) (fun _ _ => rfl)))) pss_nil)
      (pss_cons (ps_if (pt_cmpR (r := rIn K true) op_notIn_seq (pv 3) (pv 1) (by rfl)) (pss_one (ps_ret (pv 3))) pss_nil)
      (pss_one (ps_ret (pe_ix ix_list (pe_lc (own := [("_law_one", 6)]) (g := gName 6) rfl nd (pi_list (pe_lc (own := [("_law_sign", 5)]) (g := gName 5) (tt := tYes) rfl nd (pi_str pe_str) (blkOk_by (N := nameN) (sc := defScope s_l_name) (by decide +kernel)) (fun _ _ _ _ _ => pg_name (i := 5) nd rfl (Or.inl rfl)) (fun _ _ _ _ _ => pts_nil)
            (fun _ _ _ _ _ => pe_op (r := rAddS) op_add_str pe_str (pv 5)))) (blkOk_by (N := nameN) (sc := defScope s_l_name) (by decide +kernel)) (fun _ _ _ _ _ => pg_name (i := 6) nd rfl (Or.inl rfl)) (fun _ _ _ _ _ => pts_one (pt_cmpR (r := rIn K true) op_notIn_seq (pv 6) (pv 1) (by rfl)))
            (fun _ _ _ _ _ => (pv 6))) pe_int (fun _ _ => rfl)))))))), ?_⟩
    show tSeq (tAsg (tOp (rIxL K) (tLst (tCons (tC (.int 8)) _)) (tCall sp_draw [] E0 (tCons (tVar 0) (tCons (tC (.int 13)) tNil)))) (gName 2)) _ _ [some (V.ref p), some (V.ref q), none, none, none, none, none] H
    refine asg_of ⟨(by show 13 ≤ sizeLine; decide), fun a1 ha1 => ?_⟩
    obtain ⟨po, hpo⟩ := hp.there
    have na1 : a1 ≠ p := fun e => by rw [e, hpo] at ha1; cases ha1
    refine draw_of rfl (hp.new ha1) (by omega) (by decide) (by decide +kernel) fun j1 H1 j10 j11 hp1 k1 => ?_
    obtain ⟨v1, hv1, mv1⟩ := at_in (xs := [V.int 8, .int 4, .int 5, .int 6, .int 7, .int 1, .int 2, .int 3, .int 1, .int 2, .int 3, .int 1, .int 2]) j10 j11
    refine ⟨a1, _, j1, v1, rfl, rfl, SqL.of (k1 _ _ na1 upd_same), hv1, ?_⟩
    have hi : ∃ m : Nat, v1 = .int (m : Int) ∧ 1 ≤ m ∧ m ≤ 8 := by
      simp only [List.mem_cons, List.not_mem_nil, or_false] at mv1
      rcases mv1 with h | h | h | h | h | h | h | h | h | h | h | h | h <;> subst h
      · exact ⟨8, rfl, by decide, by decide⟩
      · exact ⟨4, rfl, by decide, by decide⟩
      · exact ⟨5, rfl, by decide, by decide⟩
      · exact ⟨6, rfl, by decide, by decide⟩
      · exact ⟨7, rfl, by decide, by decide⟩
      · exact ⟨1, rfl, by decide, by decide⟩
      · exact ⟨2, rfl, by decide, by decide⟩
      · exact ⟨3, rfl, by decide, by decide⟩
      · exact ⟨1, rfl, by decide, by decide⟩
      · exact ⟨2, rfl, by decide, by decide⟩
      · exact ⟨3, rfl, by decide, by decide⟩
      · exact ⟨1, rfl, by decide, by decide⟩
      · exact ⟨2, rfl, by decide, by decide⟩
    obtain ⟨m, rfl, m1, m8⟩ := hi
    have kk1 : Keep p H H1 := (Keep.new ha1).trans k1
    clear k1 mv1 hv1
    -- the letters
    show tSeq (tAsg (tM1 _ (tC (.str _)) (tLc (iRng1 (tCons (tVar 2) tNil)) (gName 4) tYes (tOp rIxS (tC (.str alpha)) (tCall sp_draw [] E0 (tCons (tVar 0) (tCons (tC (.int 26)) tNil)))) [4])) (gName 3)) _ _ [some (V.ref p), some (V.ref q), some (V.int (m : Int)), none, none, none, none] H1
    refine asg_of ⟨⟨_, rfl⟩, _, rfl, (m : Int), rfl, by omega, by omega, fun D hD => ?_⟩
    refine lc_range (lo := 0) (n := m) (fun i H' => SrcAt H' p (n + 1 + i) ∧ Keep p H1 H' ∧ ∃ cs : List Nat, cs.length = i ∧ (∀ c ∈ cs, letB c = true) ∧ H' D = some (.lst ((cs.map oneS).map V.str))) ⟨hp1.new hD, Keep.new hD, [], rfl, fun _ h => absurd h List.not_mem_nil, upd_same⟩ ?_ ?_
    · intro i H' hi ⟨hp2, kp2, cs, lc, hc, hd⟩
      refine ⟨rfl, yes_of (iteT ?_)⟩
      refine draw_of rfl hp2 (by omega) (by decide) (by decide +kernel) fun j2 H3 j20 j21 hp3 k3 => ?_
      obtain ⟨c, hv2, mc⟩ := at_in (xs := alpha.cps.toList) j20 j21
      have nD : D ≠ p := fun e => by
        obtain ⟨po1, hpo1⟩ := hp1.there
        rw [e, hpo1] at hD
        cases hD
      refine ⟨_, j2, c, rfl, rfl, (by show 26 ≤ sizeLine; decide), hv2, _, k3 _ _ nD hd, ?_, ?_⟩
      · rw [List.length_map, List.length_map, lc, sizeLine_eq]
        omega
      · refine ⟨?_, ?_, cs ++ [c], ?_, ?_, ?_⟩
        · obtain ⟨g, sd, cc, e, z⟩ := hp3
          exact ⟨g, sd, cc, by rw [upd_ne nD.symm]; exact e, z⟩
        · intro b o nb e
          have nbD : b ≠ D := fun e2 => by rw [e2, hD] at e; cases e
          rw [upd_ne nbD]
          exact k3 _ _ nb (kp2 _ _ nb e)
        · rw [List.length_append, lc]
          rfl
        · intro d hd2
          rcases List.mem_append.mp hd2 with h1 | h1
          · exact hc d h1
          · rw [List.mem_singleton.mp h1]
            exact decide_eq_true mc
        · rw [upd_same, List.map_append, List.map_append]
          rfl
    · intro H2 ⟨hp2, kp2, cs, lc, hc, hd⟩
      refine ⟨_, D, cs.map oneS, rfl, rfl, .inl (SqL.of hd), ?_, ?_⟩
      · rw [sum_ones, lc]
        show m + (cs.map oneS).length * 0 ≤ 16777216
        omega
      rw [join_none]
      have nz : nameB ⟨cs.toArray⟩ = true := nameB_of (by show 1 ≤ cs.toArray.size; rw [List.size_toArray, lc]; exact m1) (by show cs.toArray.size ≤ 8; rw [List.size_toArray, lc]; exact m8) (by simpa using hc)
      have lz : (⟨cs.toArray⟩ : Str).length = m := by show cs.toArray.size = m; rw [List.size_toArray, lc]
      generalize (⟨cs.toArray⟩ : Str) = z at nz lz
      have kk2 := kk1.trans kp2
      clear hd hc lc kp2
      show tSeq (tIfS (tTest (tChain _ _ (tC (.int 3)) (tVar 2) (tC (.int 8)))) _ tNext) _ _ [some (V.ref p), some (V.ref q), some (V.int (m : Int)), some (V.str z), none, none, none] H2
      have hp9 := hp2.mono (show n + 1 + m ≤ n + 9 by omega)
      have rest : ∀ (z' : Str) (H3 : Hp), drawn z' → SrcAt H3 p (n + 10) → Keep p H H3 → tSeq (tIfS (tTest (tOp (rIn K true) (tVar 3) (tVar 1))) (tRet (tVar 3)) tNext)
          (tRet (tOp (rIxL K) (tLc (iList K (tLc (iStr (tC (.str alpha))) (gName 5) tYes (tOp rAddS (tC (.str "z")) (tVar 5)) [5])) (gName 6) (tTest (tOp (rIn K true) (tVar 6) (tVar 1))) (tVar 6) [6]) (tC (.int 0)))) { nx := fun _ H' => Q .non H', rt := Q } [some (V.ref p), some (V.ref q), some (V.int (m : Int)), some (V.str z'), none, none, none] H3 := by
        intro z' H3 nz' hp3 kk3
        have hq3 := kk3.seq ne hq
        refine ifs_of (test_of ⟨_, rfl, _, rfl, q, _, rfl, .inl hq3, rfl, flat_strs xs, _, rfl, ite_of (fun c => ?_) (fun _ => ?_)⟩)
        · rw [inV_str] at c
          refine ⟨_, rfl, k z' H3 nz' (fun hz => ?_) hp3 kk3⟩
          rw [decide_eq_true hz] at c
          cases c
        · refine ⟨alpha, rfl, fun D1 hD1 => ?_⟩
          refine lc_it walk_str (fun i H' => Same H3 H' ∧ H' D1 = some (.lst (((alpha.cps.toList.take i).map fun c => ("z" : Str) ++ oneS c).map V.str))) ⟨same_new hD1, upd_same⟩ (fun _ _ _ _ => trivial) ?_ ?_
          · intro i x Ha Hb hi ⟨s1, hd1⟩ ⟨e, c, hc, ex⟩
            subst e ex
            refine ⟨rfl, yes_of (iteT ?_)⟩
            refine ⟨_, rfl, ("z" : Str), oneS c, rfl, rfl, (by show 1 + 1 ≤ sizeLine; decide), _, hd1, ?_, ?_, ?_⟩
            · have hi' : i < 26 := by rw [← alpha_size]; exact hi
              rw [List.length_map, List.length_map, List.length_take, sizeLine_eq]
              omega
            · intro b o e
              rw [upd_ne (ne_of_none e hD1)]
              exact s1 _ _ e
            · have hc' : alpha.cps.toList[i]? = some c := by
                rw [Array.getElem?_toList]
                exact hc
              rw [upd_same, List.take_succ, hc', List.map_append, List.map_append]
              rfl
          · intro H4 ⟨s4, hd4⟩
            have e26 : (alpha.cps.toList.take alpha.cps.size).map (fun c => ("z" : Str) ++ oneS c) = zs := by decide +kernel
            rw [e26] at hd4
            refine ⟨D1, rfl, ⟨_, SqL.of hd4⟩, fun D2 hD2 => ?_⟩
            have hq4 : SqL K H4 q (xs.map V.str) := sq_same hq3 s4
            refine lc_list (xs := zs.map V.str) (fun i H' => Same H4 H' ∧ H' D2 = some (.lst (((zs.take i).filter fun z => decide (z ∉ xs)).map V.str))) ⟨same_new hD2, upd_same⟩ (fun i H' _ ⟨s5, _⟩ => SqL.of (s5 _ _ hd4)) ?_ ?_
            · intro i y H' hy ⟨s5, hd5⟩
              rw [List.getElem?_map] at hy
              cases ez : zs[i]? with
              | none => rw [ez] at hy; cases hy
              | some z1 =>
                rw [ez] at hy
                cases Option.some.inj hy
                refine ⟨rfl, test_of ⟨_, rfl, _, rfl, q, _, rfl, .inl (sq_same hq4 s5), rfl, flat_strs xs, _, rfl, ite_of (fun c => ?_) (fun c => ?_)⟩⟩
                · rw [inV_str] at c
                  have c' : z1 ∉ xs := fun hz => by
                    rw [decide_eq_true hz] at c
                    cases c
                  refine ⟨_, rfl, _, hd5, ?_, ?_, ?_⟩
                  · rw [List.length_map, sizeLine_eq]
                    have := List.length_filter_le (fun z => decide (z ∉ xs)) (zs.take i)
                    rw [List.length_take, zs_len] at this
                    omega
                  · intro b o e
                    rw [upd_ne (ne_of_none e hD2)]
                    exact s5 _ _ e
                  · rw [upd_same, List.take_succ, ez, List.filter_append, List.map_append]
                    show _ = some (HO.lst (_ ++ (([z1].filter fun z => decide (z ∉ xs)).map V.str)))
                    rw [List.filter_cons_of_pos (by simpa using c')]
                    rfl
                · rw [inV_str] at c
                  have c' : z1 ∈ xs := by
                    by_cases hz : z1 ∈ xs
                    · exact hz
                    · rw [decide_eq_false hz] at c
                      cases c
                  refine ⟨s5, ?_⟩
                  rw [List.take_succ, ez, List.filter_append]
                  show _ = some (HO.lst ((_ ++ ([z1].filter fun z => decide (z ∉ xs))).map V.str))
                  rw [List.filter_cons_of_neg (by simpa using c')]
                  rw [List.filter_nil, List.append_nil]
                  exact hd5
            · intro H5 ⟨s5, hd5⟩
              have e26' : zs.take (zs.map V.str).length = zs := by
                rw [List.length_map]
                exact List.take_length
              rw [e26'] at hd5
              obtain ⟨z1, hz1, hx1⟩ := one_not_in zs xs zs_nodup (by rw [zs_len]; omega)
              have hm : z1 ∈ zs.filter fun z => decide (z ∉ xs) := List.mem_filter.mpr ⟨hz1, by simpa using hx1⟩
              have hl : (0 : Int) < (((zs.filter fun z => decide (z ∉ xs)).map V.str).length : Int) := by
                have := List.length_pos_of_mem hm
                rw [List.length_map]
                omega
              obtain ⟨v, hv, mv⟩ := at_in (Int.le_refl 0) hl
              obtain ⟨z2, hz2, rfl⟩ := List.mem_map.mp mv
              obtain ⟨hz3, hz4⟩ := List.mem_filter.mp hz2
              refine ⟨D2, _, 0, _, rfl, rfl, SqL.of hd5, hv, k z2 H5 (zs_drawn z2 hz3) (by simpa using hz4) ?_ ?_⟩
              · obtain ⟨g, sd, cc, e, z⟩ := hp3
                exact ⟨g, sd, cc, s5 _ _ (s4 _ _ e), z⟩
              · exact kk3.trans (Keep.of_same (s4.trans s5))
      refine ifs_of ⟨_, rfl, 3, (m : Int), rfl, rfl, decide ((3 : Int) < m), rfl, ite_of (fun h3 => ⟨(m : Int), 8, rfl, rfl, _, rfl, ite_of (fun h8 => ?_) (fun h8 => ?_)⟩) (fun h3 => ⟨false, rfl, iteF ?_⟩)⟩
      · refine ⟨_, rfl, 1, rfl, z, rfl, (by rw [lz, sizeLine_eq]; omega), _, _, rfl, rfl, ?_, (by show 7 ≤ sizeLine; decide), fun a3 ha3 => ?_⟩
        · have := cutS_length z (some 1) none
          rw [sizeLine_eq]
          show 1 + _ ≤ _
          omega
        · obtain ⟨po2, hpo2⟩ := hp2.there
          have na3 : a3 ≠ p := fun e => by rw [e, hpo2] at ha3; cases ha3
          refine draw_of rfl (hp9.new ha3) (by omega) (by decide) (by decide +kernel) fun j3 H3 j30 j31 hp3 k3 => ?_
          obtain ⟨v3, hv3, mv3⟩ := at_in (xs := [V.str "old", .str "new", .str "do", .str "add", .str "set", .str "refuse", .str (("q" : Str) ++ cutS z (some 1) none)]) j30 j31
          refine ⟨a3, _, j3, v3, rfl, rfl, SqL.of (k3 _ _ na3 upd_same), hv3, ?_⟩
          have hz : ∃ z' : Str, v3 = .str z' ∧ drawn z' := by
            simp only [List.mem_cons, List.not_mem_nil, or_false] at mv3
            rcases mv3 with h | h | h | h | h | h | h <;> subst h
            · exact ⟨_, rfl, by decide +kernel, .inr (.inr (.inl (by decide +kernel)))⟩
            · exact ⟨_, rfl, by decide +kernel, .inr (.inr (.inl (by decide +kernel)))⟩
            · exact ⟨_, rfl, by decide +kernel, .inr (.inr (.inl (by decide +kernel)))⟩
            · exact ⟨_, rfl, by decide +kernel, .inr (.inr (.inl (by decide +kernel)))⟩
            · exact ⟨_, rfl, by decide +kernel, .inr (.inr (.inl (by decide +kernel)))⟩
            · exact ⟨_, rfl, by decide +kernel, .inr (.inr (.inl (by decide +kernel)))⟩
            · exact ⟨_, rfl, drawn_q nz (by omega)⟩
          obtain ⟨z', rfl, nz'⟩ := hz
          exact rest z' H3 nz' hp3 (kk2.trans ((Keep.new ha3).trans k3))
      · have := of_decide_eq_false h8
        exact rest z H2 ⟨nz, .inr (.inl (by omega))⟩ (hp9.mono (by omega)) kk2
      · have := of_decide_eq_false h3
        exact rest z H2 ⟨nz, .inl (by omega)⟩ (hp9.mono (by omega)) kk2
end
end Lw
/-! ## NamC -/
set_option Elab.async false
set_option linter.all false
set_option maxRecDepth 100000
set_option maxHeartbeats 8000000
namespace Lw
open PySem PySem.Spec PyProof.Rows L2 Sl
section
variable {P : Program} {w : World} {K : PySem.W.Frag} {mg : Str → Option Value} {base : Heap} {f : Addr} {fd : FuncData}
def sp_names (K : PySem.W.Frag) : Sp := fun vs H Q _ => ∃ (p : Addr) (m n : Nat), vs = [.ref p, .int (m : Int)] ∧ SrcAt H p n ∧ n ≤ 98000 ∧ m ≤ 20 ∧
  ∀ (q : Addr) (xs : List Str) (H' : Hp), xs.length = m → xs.Nodup → (∀ z ∈ xs, drawn z) → H q = none → H' q = some (.lst (xs.map V.str)) → SrcAt H' p (n + 10 * m) → Keep p H H' → Q (.ref q) H'
theorem ok_names (F : FnP K "_law_names" s_l_names [] f fd) (D : Cal P w K mg base 2 "_law_name" [] (sp_name K)) (mR : mg "range" = none) : FnOk P w K mg base CX0 3 f fd ["_law_source_here", "_law_many"] (sp_names K) := by
  refine F.ok sc_l_names (fun vs H Q E h => ?_) (fun cdv A outer s H vs Q E hr h => ?_)
  · obtain ⟨p, m, n, rfl, _⟩ := h
    rfl
  · obtain ⟨p, m, n, rfl, hp, hn, hm, k⟩ := h
    have nd := sc_l_names.nd
    refine ⟨_, PSs.nox (pss_cons (ps_set (i := 2) nd rfl (.inl rfl) (pe_lst pa_nil))
      (pss_cons (ps_for PassesOwn.never rfl (pi_range1 (by rfl) mR (pa_cons (pv 1) pa_nil)) (pg_name (i := 3) nd rfl (Or.inl rfl))
          (pss_one (ps_expr (pe_bm PySem.F.plainAttrs_list PySem.F.slot_list_append PySem.F.type_list_append mt_append (pv 2) (pa_cons (pe_cal D hr (pa_cons (pv 0) (pa_cons (pv 2) pa_nil))) pa_nil)))))
      (pss_one (ps_ret (pv 2))))), ?_⟩
    show tSeq (tAsg (tLst tNil) (gName 2)) _ _ [some (V.ref p), some (V.int (m : Int)), none, none] H
    refine asg_of ⟨Nat.zero_le _, fun q hq => ?_⟩
    obtain ⟨po, hpo⟩ := hp.there
    have nq : q ≠ p := fun e => by rw [e, hpo] at hq; cases hq
    show tSeq (tFor (iRng1 (tCons (tVar 1) tNil)) (gName 3) _) _ _ [some (V.ref p), some (V.int (m : Int)), some (V.ref q), none] _
    refine ⟨_, rfl, (m : Int), rfl, by omega, by omega, ?_⟩
    refine for_range (lo := 0) (n := m) (fun i σ H' => ∃ (y : Option V) (xs : List Str), σ = [some (V.ref p), some (V.int (m : Int)), some (V.ref q), y] ∧ xs.length = i ∧ xs.Nodup ∧ (∀ z ∈ xs, drawn z) ∧ H' q = some (.lst (xs.map V.str)) ∧ SrcAt H' p (n + 10 * i) ∧ Keep p H H')
      ⟨none, [], rfl, rfl, List.nodup_nil, fun _ h => absurd h List.not_mem_nil, upd_same, hp.new hq, Keep.new hq⟩ ?_ ?_
    · intro i σ H1 hi ⟨y, xs, e, lx, ndx, nx, hq1, hp1, k1⟩
      subst e
      refine ⟨_, rfl, .inl ⟨rfl, _, SqL.of hq1⟩, ?_⟩
      refine ⟨_, rfl, _, rfl, p, q, xs, n + 10 * i, rfl, hp1, by omega, SqL.of hq1, nq, by omega, fun z H2 nz hz hp2 k2 => ?_⟩
      refine ⟨q, _, _, rfl, rfl, k2 _ _ nq hq1, ?_, ?_⟩
      · rw [List.length_map, sizeLine_eq]
        omega
      · refine ⟨_, xs ++ [z], rfl, ?_, ?_, ?_, ?_, ?_, ?_⟩
        · rw [List.length_append, lx]
          rfl
        · refine List.nodup_append.mpr ⟨ndx, by simp, ?_⟩
          intro a ha b hb
          rw [List.mem_singleton.mp hb]
          exact fun e => hz (e ▸ ha)
        · intro a ha
          rcases List.mem_append.mp ha with h1 | h1
          · exact nx a h1
          · rw [List.mem_singleton.mp h1]
            exact nz
        · rw [upd_same, List.map_append]
          rfl
        · obtain ⟨g, sd, cc, e, z1, z2, z3, z4⟩ := hp2
          exact ⟨g, sd, cc, by rw [upd_ne nq.symm]; exact e, z1, z2, z3, by omega⟩
        · intro b o nb e
          have nbq : b ≠ q := fun e2 => by rw [e2, hq] at e; cases e
          rw [upd_ne nbq]
          exact k2 _ _ nb (k1 _ _ nb e)
    · intro σ H1 ⟨y, xs, e, lx, ndx, nx, hq1, hp1, k1⟩
      subst e
      exact ⟨_, rfl, k q xs H1 lx ndx nx hq hq1 hp1 k1⟩
end
end Lw
/-! ## SlMerge -/
set_option Elab.async false
set_option linter.all false
set_option maxRecDepth 100000
set_option maxHeartbeats 4000000
/-! {**a, **b} -/
namespace Sl
open PySem PySem.Spec PyProof.Rows L2
section
variable {prog : Program} {w : World} {κ : Type} [DecidableEq κ] {knd : KeyKind prog w κ} {A : Around} {E : Value → Shared → Prop} {s : Shared}
theorem dictPut_pairs {d : Addr} {kvs : List (κ × Value)} {k : κ} {key v : Value} {Q : Unit → Shared → Prop} (hkey : knd.is k key = true) (hm : s.heap.DictOf knd d kvs)
    (hQ : ∀ h', h'.DictOf knd d (stored kvs k v) → Heap.SameBut d s.heap h' → Q () { s with heap := h' }) (hsz : kvs.length ≤ sizeLine) : wpAny (model prog w) A (dictPut d (knd.hash k) key v) Q E s := by
  obtain ⟨o, es, ep, ho, hc, hd, hk, hp, hn⟩ := hm
  have hes : es.size ≤ sizeLine := by
    have e1 := hp.length
    have e2 : es.toList.length = es.size := by simp
    omega
  unfold dictPut
  refine wpAny_bind (wpAny_dictFind_of hkey ho hd hk ?_)
  have hidx : (es.findIdx? fun e => knd.is k e.key) = kvs.findIdx? fun kv => decide (kv.1 = k) := by
    rw [← hp.findIdx k]; obtain ⟨l⟩ := es; simp
  cases hi : es.findIdx? fun e => knd.is k e.key with
  | some i =>
    refine wpAny_updateDict ho hd (hQ _ ⟨_, _, ep, Heap.get?_update_self _ ho (Obj.isFreed_of_dict (Obj.data_mapDict hd _)), hc.mapDict _, Obj.data_mapDict hd _, hk.modify _ _, ?_, ?_⟩ (Heap.SameBut.update ..))
    · rw [stored, if_pos (any_of_findIdx_some (hidx ▸ hi))]
      have hl : (es.toList.findIdx? fun e => knd.is k e.key) = some i := by rw [← hi]; obtain ⟨l⟩ := es; simp
      have := hp.modify hn hl v
      obtain ⟨l⟩ := es
      simpa using this
    · rw [stored, if_pos (any_of_findIdx_some (hidx ▸ hi)), keys_map_store]; exact hn
  | none =>
    have hnot : k ∉ kvs.map (·.1) := not_mem_of_findIdx_none (hidx ▸ hi)
    have hany : ¬ (kvs.any fun kv => decide (kv.1 = k)) = true := by
      rw [List.any_eq_true]; rintro ⟨kv, hkv, he⟩
      exact hnot (List.mem_map.mpr ⟨kv, hkv, of_decide_eq_true he⟩)
    refine wpAny_updateDictKeys (hz := hes) ho hd (hQ _ ⟨_, _, ep + 1, Heap.get?_update_self _ ho (Obj.isFreed_of_dict (Obj.data_mapDictKeys hd _)),
      hc.mapDictKeys _, Obj.data_mapDictKeys hd _, hk.push hkey _, ?_, ?_⟩ (Heap.SameBut.update ..))
    · rw [stored, if_neg hany]
      have := hp.append hkey (knd.hash k) v
      obtain ⟨l⟩ := es
      simpa using this
    · rw [stored, if_neg hany, List.map_append, List.nodup_append]
      refine ⟨hn, by simp, ?_⟩
      intro a ha b hb
      simp only [List.map_cons, List.map_nil, List.mem_singleton] at hb
      subst hb
      exact fun e => hnot (e ▸ ha)
theorem mergeMapping_pairs {d o : Addr} {kvs more : List (κ × Value)} {Q : Unit → Shared → Prop} (hnr : ∀ k a, knd.is k (.ref a) = false) (hdo : d ≠ o) (hoS : (o == sysModules) = false) (hd : s.heap.DictOf knd d kvs) (ho : s.heap.DictOf knd o more)
    (hQ : ∀ h', h'.DictOf knd d (merged kvs more) → h'.DictOf knd o more → Heap.SameBut d s.heap h' → Q () { s with heap := h' }) (hsz : kvs.length + more.length ≤ sizeLine) :
    wpAny (model prog w) A (mergeMapping d (.ref o) false) Q E s := by
  obtain ⟨od, esd, epd, hod, hcd, hdd, hkd, hpd, hnd⟩ := id hd
  obtain ⟨oo, eso, epo, hoo, hco, hdo', hko, hpo, hno⟩ := id ho
  have hT : s.TypeIs (.ref o) "dict" := ⟨oo, hoo, hco.1⟩
  have hlen : more.length = eso.size := by rw [← hpo.length]; simp
  unfold mergeMapping
  refine wpAny_bind (wpAny_isInstance hT (b := true) (by rw [isSubtype_type]; kernel_rfl) ?_)
  rw [if_pos rfl]
  refine wpAny_bind (wpAny_specialOf hT F.slot_dict_iter.lookup ?_)
  refine wpAny_bind (wpAny_pure ?_)
  rw [show ((some (Value.builtin "dict.__iter__")) == some (Value.builtin "dict.__iter__")) = true by decide +kernel]
  dsimp only
  rw [if_neg (by rw [hoS]; exact Bool.false_ne_true)]
  refine wpAny_bind (wpAny_dictEntries hod hdd ?_)
  have loop : wpAny (model prog w) A (do
      let l ← dictEntries o
      let size : Nat := l.size
      let epoch ← dictEpoch o
      forIn (List.range size) PUnit.unit fun i (_ : PUnit) => (do
          let l' ← dictEntries o
          match l'[i]? with
            | some e => do
              holding [e.key, e.val] (dictPut d e.hash e.key e.val)
              let ep' ← dictEpoch o
              if (ep' != epoch) = true then do
                  (unsupported "dict.changed-during-merge" : Sem PUnit)
                  pure (ForInStep.yield PUnit.unit)
                else pure (ForInStep.yield PUnit.unit)
            | _ => do
              (unsupported "dict.changed-during-merge" : Sem PUnit)
              pure (ForInStep.yield PUnit.unit) : Sem (ForInStep PUnit))
      pure ()) Q E s := by
    refine wpAny_bind (wpAny_dictEntries hoo hdo' ?_)
    refine wpAny_bind (wpAny_dictEpoch hoo hdo' ?_)
    refine wpAny_bind ?_
    rw [List.range_eq_range']
    refine wpAny_forIn_list _
      (fun rest _ s' => ∃ h' i, s' = { s with heap := h' } ∧ rest = List.range' i (eso.size - i) ∧ i ≤ eso.size ∧ h'.DictOf knd d (merged kvs (more.take i)) ∧ h'.get? o = some oo ∧ Heap.SameBut d s.heap h')
      _ ?_ ?_ _ _ ⟨s.heap, 0, rfl, by simp, Nat.zero_le _, by simpa [merged] using hd, hoo, Heap.SameBut.refl _ _⟩
    · rintro x rest b s' ⟨h', i, rfl, hr, hi, hd', hoo', hs'⟩
      have hlt : i < eso.size := by
        rcases Nat.lt_or_ge i eso.size with h | h
        · exact h
        · rw [Nat.sub_eq_zero_of_le h] at hr; simp at hr
      obtain ⟨rfl, hrest⟩ : x = i ∧ rest = List.range' (i + 1) (eso.size - (i + 1)) := by
        have e : eso.size - i = (eso.size - (i + 1)) + 1 := by omega
        rw [e, List.range'_succ] at hr
        injection hr with h1 h2
        exact ⟨h1, h2⟩
      refine wpAny_bind (wpAny_dictEntries hoo' hdo' ?_)
      rw [Array.getElem?_eq_getElem hlt]
      obtain ⟨kv, hkv⟩ : ∃ kv, more[x]? = some kv := ⟨more[x]'(by rw [hlen]; exact hlt), List.getElem?_eq_getElem _⟩
      obtain ⟨k, v⟩ := kv
      obtain ⟨hkey, hval⟩ := hpo.get? (e := eso[x]) (by simp [hlt]) hkv
      obtain ⟨k', hkey', hhash⟩ := hko eso[x] (Array.getElem_mem hlt)
      obtain rfl : k' = k := knd.inj _ _ _ hkey' hkey
      show wpAny _ _ (holding [eso[x].key, eso[x].val] (dictPut d eso[x].hash eso[x].key eso[x].val) >>= _) _ _ _
      rw [hhash, hval]
      have hmx : (merged kvs (more.take x)).length ≤ sizeLine := by
        have e1 := merged_length_le kvs (more.take x)
        have e2 : (more.take x).length ≤ more.length := by rw [List.length_take]; omega
        omega
      refine wpAny_bind (wpAny_holding (dictPut_pairs (hsz := hmx) hkey hd' fun h'' hd'' hs'' => ?_))
      have hoo'' : h''.get? o = some oo := (hs''.2 o (Ne.symm hdo)).trans hoo'
      refine wpAny_bind (wpAny_dictEpoch hoo'' hdo' ?_)
      rw [if_neg (by simp)]
      exact wpAny_pure ⟨h'', x + 1, rfl, hrest, hlt, by rw [merged_take_succ kvs more x (k', v) hkv]; exact hd'', hoo'', hs'.trans hs''⟩
    · rintro b s' ⟨h', i, rfl, hr, hi, hd', hoo', hs'⟩
      have hin : i = eso.size := by
        rcases Nat.lt_or_ge i eso.size with h | h
        · have e : eso.size - i = (eso.size - (i + 1)) + 1 := by omega
          rw [e, List.range'_succ] at hr; exact nomatch hr
        · exact Nat.le_antisymm hi h
      refine wpAny_pure (hQ h' ?_ ⟨oo, eso, epo, hoo', hco, hdo', hko, hpo, hno⟩ hs')
      rw [hin, ← hlen, List.take_length] at hd'; exact hd'
  split
  · refine wpAny_bind (wpAny_dictEntries hoo hdo' ?_)
    refine wpAny_bind (MeetsSeq2.wpAny_forIn_array _ (fun rest _ s' => s' = s ∧ ∀ e ∈ rest, e ∈ eso) _ ?_ ?_ _ _ ⟨rfl, fun e he => by simpa using he⟩)
    · rintro e rest b s' ⟨rfl, hm⟩
      obtain ⟨k', hkey', _⟩ := hko e (hm e List.mem_cons_self)
      cases hk : e.key with
      | ref a =>
        rw [hk, hnr] at hkey'
        cases hkey'
      | _ => exact wpAny_pure ⟨rfl, fun e he => hm e (List.mem_cons_of_mem _ he)⟩
    · rintro b s' ⟨rfl, _⟩
      exact loop
  · exact loop
end
theorem mix_noref (prog : Program) (w : World) (k : Key) (a : Addr) : (mixKind prog w).is k (.ref a) = false := by
  cases k <;> rfl
def tTwo (t1 t2 : TE) : TE := fun σ H Q => ∀ p, H p = none → t1 σ (upd H p (.dK [])) fun x H1 => ∃ (a : Addr) (ks : List (Key × V)), x = .ref a ∧ a ≠ p ∧ Rd H1 a (.dK ks) ∧ H1 p = some (.dK []) ∧ ks.length ≤ 10000 ∧
  t2 σ (upd H1 p (.dK (mergeK [] ks))) fun y H2 => ∃ (b : Addr) (ls : List (Key × V)), y = .ref b ∧ b ≠ p ∧ Rd H2 b (.dK ls) ∧ H2 p = some (.dK (mergeK [] ks)) ∧ ls.length ≤ 10000 ∧ Q (.ref p) (upd H2 p (.dK (mergeK (mergeK [] ks) ls)))
section
variable {X : Cx} {e1 e2 : Expr} {t1 t2 : TE} {pos : Pos}
theorem merge_step {E : Value → Shared → Prop} {pins : List (Addr × Obj)} {σ : L2.St} {H : Hp} {s : Shared} {p a : Addr} {kvs ks : List (Key × V)} {Q : Unit → Shared → Prop} (I : Inv X pins σ H s) (hp : H p = some (.dK kvs)) (ne : a ≠ p) (ha : Rd H a (.dK ks)) (h1 : kvs.length ≤ 20000) (h2 : ks.length ≤ 10000)
    (q : ∀ s', Inv X pins σ (upd H p (.dK (mergeK kvs ks))) s' → Q () s') : wpAny (model X.prog X.w) X.A (mergeMapping p (.ref a) false) Q E s := by
  obtain ⟨z, hd, vs, rel, dd⟩ := dk_of I.hok hp
  obtain ⟨z2, hd2, ws, rel2, dd2⟩ := dk_rd I.hok ha
  have l1 := rel.length
  have l2 := rel2.length
  have hl := length_mergeK ks kvs
  refine mergeMapping_pairs (mix_noref X.prog X.w) ne.symm hd2 dd dd2 (fun h' dd' _ hs => q _ ?_) (by rw [← l1, ← l2, sizeLine_eq]; omega)
  have he : ∃ q, h'.get? p = some q := let ⟨q, _, _, hq, _⟩ := dd'; ⟨q, hq⟩
  exact d_write I (by rw [hp]; exact True.intro) hs he (dk_new (by rw [sizeLine_eq]; omega) hd (KV.merge rel2 rel) dd')
theorem pe_two (h1 : PE X e1 t1) (h2 : PE X e2 t2) : PE X (.Dict [none, none] [e1, e2] pos) (tTwo t1 t2) := by
  refine ⟨fun pins s σ H Q I q => ?_⟩
  have hn := I.hok.fresh (Nat.le_refl s.heap.objs.size)
  have I1 := I.laid (a := s.heap.objs.size) (o := .dK []) (h' := s.heap.push { cls := .type "dict", data := .dict #[] }) (t' := s.toks) (fun _ _ q => Heap.get?_push_of_some _ q) (Nat.le_refl _) (dk_empty s.heap I.big)
  rw [arm_eval_Dict]
  refine wpAny_bind (wpAny_standAt ?_)
  show wpAny _ _ (dictDisplay [(none, do let x ← eval e1 X.env; standAt pos; pure x), (none, do let x ← eval e2 X.env; standAt pos; pure x)]) _ _ s
  unfold dictDisplay
  simp only [List.forIn_cons, List.forIn_nil, List.isEmpty_nil, if_true, pure_bind, bind_assoc]
  refine wpAny_bind (wpAny_alloc ?_)
  refine wpAny_bind (wpAny_holding (wpAny_bind (thn (h1.run pins _ σ _ _ I1 (q _ hn)) fun u s1 ⟨x, H1, I2, r1, a, ks, ex, ne, ha, hp, hk, q1⟩ => wpAny_bind (wpAny_standAt (wpAny_pure ?_)))))
  subst ex
  obtain rfl : u = Value.ref a := r1
  refine wpAny_bind (wpAny_onRaise (wpAny_tryCatch (wpAny_onRaise (wpAny_holding (merge_step I2 hp ne ha (by simp) hk fun s2 I3 => ?_)))))
  have l1 := length_mergeK ks []
  refine wpAny_bind (wpAny_holding (wpAny_bind (thn (h2.run pins _ σ _ _ I3 q1) fun u s3 ⟨y, H2, I4, r2, b, ls, ey, ne2, hb, hp2, hl, q2⟩ => wpAny_bind (wpAny_standAt (wpAny_pure ?_)))))
  subst ey
  obtain rfl : u = Value.ref b := r2
  refine wpAny_bind (wpAny_onRaise (wpAny_tryCatch (wpAny_onRaise (wpAny_holding (merge_step I4 hp2 ne2 hb (by simp at l1; omega) hl fun s4 I5 => ?_)))))
  exact wpAny_pure ⟨.ref _, _, I5, rfl, q2⟩
end
end Sl
/-! ## SlWalk -/
set_option Elab.async false
set_option linter.all false
set_option maxRecDepth 100000
set_option maxHeartbeats 4000000
namespace Sl
open PySem PySem.Spec PyProof.Rows L2
/-! ### a walk over a dict that was just made: it is locked by the walk, for good -/
def iKeysN (td : TE) : TI := fun σ H R => td σ H fun x H1 => ∃ (d : Addr) (kvs : List (Key × V)), x = .ref d ∧ H1 d = some (.dK kvs) ∧ ∀ od, R (Itk d od kvs) (upd H1 d (.frz od (.dK kvs)))
section
variable {X : Cx} {tg e : Expr} {td : TE} {p pos apos mpos : Pos}
theorem pi_keysN (he : PE X e td) : PI X tg e (iKeysN td) := by
  refine ⟨fun pins s σ H R I h => ?_⟩
  refine thn (he.run pins s σ H _ I h) fun u s1 ⟨x, H1, I1, rx, d, kvs, ex, hd, q⟩ => ?_
  subst ex
  obtain rfl : u = Value.ref d := rx
  obtain ⟨od, I2⟩ := I1.lock hd True.intro
  obtain ⟨hs, hgd, hx, es, ep, vs, hdt, hsz, kv, hm⟩ := I2.frzK upd_same
  refine iter_keys hs hgd hx hdt (pi_one (tk := s1.toks) I2 _ (turn_keys _ hdt) ⟨_, Heap.get?_push_size _ rfl, rfl, ?_⟩ (q od))
  rw [hsz] <;> rfl
/-! ### sum(d.values()) -/
theorem preSum_getD (is : List Int) : ∀ n : Nat, n ≤ is.length → preSum (fun i => is.getD i 0) n = (is.take n).sum
  | 0, _ => rfl
  | n + 1, h => by
    show preSum (fun i => is.getD i 0) n + is.getD n 0 = _
    rw [preSum_getD is n (by omega), List.take_succ_eq_append_getElem (by omega), List.sum_append]
    rw [List.getD_eq_getElem?_getD, List.getElem?_eq_getElem (by omega)]
    simp
def tSumVals (td : TE) : TE := fun σ H Q => td σ H fun x H1 => ∃ (a : Addr) (kvs : List (Key × V)) (is : List Int), x = V.ref a ∧ H1 a = some (.dK kvs) ∧ kvs.map (·.2) = is.map V.int ∧ Q (.int is.sum) H1
theorem pe_sumVals (hc : X.calm = true) (hg : Gl X "sum") (hm : X.mg "sum" = none) (hd : PE X e td) (hbase : attributeBase e "values" X.env (eval e X.env) = eval e X.env := by rfl) (hline : (apos.endLine == mpos.line) = true := by rfl)
    (hse : starEach [Expr.Call (.Attribute e "values" apos) [] [] mpos] X.env = [(false, eval (Expr.Call (.Attribute e "values" apos) [] [] mpos) X.env)] := by rfl) :
    PE X (.Call (.Name "sum" p) [.Call (.Attribute e "values" apos) [] [] mpos] [] pos) (tSumVals td) := by
  refine ⟨fun pins s σ H Q I h => ?_⟩
  refine wpAny_Call_Name_kw (ld_blt I hg hm (u := .builtin "sum") (by first | rfl | decide +kernel) ?_ (by first | decide +kernel | decide) (by first | decide +kernel | decide))
  rw [hse]
  refine PySem.callWith_builtin1 (wpAny_Call_method0_late hbase hline (thn (hd.run pins s σ H _ I h) fun v s1 ⟨x, H1, I1, r1, a, kvs, is, ex, ha, hv, q⟩ => ?_))
  subst ex
  obtain rfl : v = Value.ref a := r1
  obtain ⟨_, hsys, vs, rel, dof⟩ := dk_of I1.hok ha
  obtain ⟨ep, dat⟩ := dof.dictAt
  have dat' := dat
  obtain ⟨ob, es, ho, ex, hdat, hko, hpr, hnd⟩ := dat'
  refine ⟨"dict", "dict.values", F.plainAttrs_dict, F.slot_dict_values, F.type_dict_values, ⟨ob, ho, ex.1⟩, fun b e => ?_, Calls.callWith_builtin rfl (PySem.evalArgs_none ?_)⟩
  · cases e
    exact ⟨ob, ho, ex.2.1⟩
  refine call_meetsIn F.slot_dict_values ⟨ob, ho, ex.1⟩ F.entry_dict_values (F.args_dict_values_1 _) (meets_dict_values (mixKind X.prog X.w) a hsys) ⟨⟨vs, dof⟩, ?_⟩
  have k1 : ∀ b u, s1.heap.get? b = some u → (s1.heap.push { cls := .type "dict_values", data := .fields #[.ref a] }).get? b = some u := fun b u e => Heap.get?_push_of_some _ e
  have dat1 : (s1.heap.push { cls := .type "dict_values", data := .fields #[.ref a] }).DictAt (mixKind X.prog X.w) a vs ep := dat.keep k1
  have hlv : vs.length = is.length := by
    have e1 := congrArg List.length hv
    rw [List.length_map, List.length_map] at e1
    rw [← e1]
    exact (KV.length rel).symm
  have hval : ∀ (i : Nat) (v : Value), (∃ k, vs[i]? = some (k, v)) → ∃ t, v = Value.int (is.getD i 0) t := fun i v ⟨k, hk⟩ => by
    obtain ⟨x, h1, h2⟩ := KV.at' rel hk
    have e1 : (kvs.map (·.2))[i]? = some x := by rw [List.getElem?_map, h1] <;> rfl
    rw [hv, List.getElem?_map] at e1
    obtain ⟨j, hj, e2⟩ := Option.map_eq_some_iff.mp e1
    subst e2
    obtain ⟨t, e3⟩ := h2
    refine ⟨t, ?_⟩
    rw [e3, List.getD_eq_getElem?_getD, hj] <;> rfl
  refine call_sum_walkG (wpAny_pyIter_values (v := s1.heap.objs.size) (d := a) ⟨_, Heap.get?_push_size _ rfl, rfl, rfl⟩ dat1 ?_)
  have hlt : a < s1.heap.objs.size := Heap.lt_size ho
  have hsz : (s1.heap.push { cls := .type "dict_values", data := .fields #[.ref a] }).objs.size = s1.heap.objs.size + 1 := Heap.size_push _ _
  refine ⟨_, _, _, _, _, _, (fun i => is.getD i 0), rfl, Walks.dictValues (knd := mixKind X.prog X.w) (A := X.A.in1) (I.ok.hd hc) (s1.heap.push { cls := .type "dict_values", data := .fields #[.ref a] }).objs.size a (by rw [hsz]; exact Nat.ne_of_lt (Nat.lt_succ_of_lt hlt)) vs ep,
    ⟨⟨_, Heap.get?_push_size _ rfl, rfl, rfl⟩, dat1.keep fun b u e => Heap.get?_push_of_some _ e⟩, fun b hb => ?_, hval, fun h' tk t' hk => ?_⟩
  · show b < ((s1.heap.push _).push _).objs.size
    rw [Heap.size_push, Heap.size_push]
    rw [hsz] at hb
    rcases List.mem_cons.mp hb with e | hb
    · rw [e]
      exact Nat.lt_succ_self _
    · have e : b = a := List.mem_singleton.mp hb
      rw [e]
      exact Nat.lt_succ_of_lt (Nat.lt_succ_of_lt hlt)
  · rw [hlv, preSum_getD is _ (Nat.le_refl _), List.take_length]
    refine ⟨.int _, H1, I1.kept (t' := tk) fun b u e => hk b u (fun hmem => ?_) (Heap.get?_push_of_some _ (k1 b u e)), ⟨t', rfl⟩, q⟩
    have e1 : b = (s1.heap.push { cls := .type "dict_values", data := .fields #[.ref a] }).objs.size := List.mem_singleton.mp hmem
    have e2 := Heap.lt_size e
    rw [hsz] at e1
    rw [e1] at e2
    exact absurd e2 (Nat.not_lt.mpr (Nat.le_succ _))
end
end Sl
/-! ## SlDic -/
set_option Elab.async false
set_option linter.all false
set_option maxRecDepth 100000
set_option maxHeartbeats 4000000
namespace Sl
open PySem PySem.Spec PyProof.Rows L2
/-! ### d == e, d != e, flat values, both answers -/
def dicAll (ks ls : List (Key × V)) : Bool := ks.all fun p => match valV ls p.1 with
  | some y => eqV p.2 y
  | none => false
def dicEq (ks ls : List (Key × V)) : Bool := (ks.length == ls.length) && dicAll ks ls
def flatD (ks : List (Key × V)) : Bool := ks.all fun p => flatV p.2
def rEqDic : R2 := fun x y H Q => ∃ (a b : Addr) (ks ls : List (Key × V)), x = .ref a ∧ y = .ref b ∧ Rd H a (.dK ks) ∧ Rd H b (.dK ls) ∧ flatD ks = true ∧ flatD ls = true ∧ Q (.bl (dicEq ks ls)) H
def rNeDic : R2 := fun x y H Q => ∃ (a b : Addr) (ks ls : List (Key × V)), x = .ref a ∧ y = .ref b ∧ Rd H a (.dK ks) ∧ Rd H b (.dK ls) ∧ flatD ks = true ∧ flatD ls = true ∧ Q (.bl (!dicEq ks ls)) H
theorem valV_mem {ls : List (Key × V)} {k : Key} {y : V} (h : valV ls k = some y) : ∃ p ∈ ls, p.2 = y := by
  unfold valV at h
  cases e : ls.find? fun kv => decide (kv.1 = k) with
  | none => rw [e] at h; cases h
  | some p =>
    rw [e] at h
    exact ⟨p, List.mem_of_find?_eq_some e, Option.some.inj h⟩
theorem hits_of {A : Around} {s : Shared} {ls : List (Key × V)} {vb : List (Key × Value)} (rb : KV ls vb) (fl : flatD ls = true) : ∀ {ks : List (Key × V)} {va : List (Key × Value)}, KV ks va → flatD ks = true → PySem.W.KeqHits A s vb va (dicAll ks ls)
  | _, _, .nil, _ => .nil
  | p :: ks, q :: va, .cons h t, f => by
    obtain ⟨h1, h2⟩ := h
    have f1 : flatV p.2 = true ∧ flatD ks = true := Bool.and_eq_true_iff.mp (show (flatV p.2 && flatD ks) = true from f)
    have ih := hits_of (A := A) (s := s) rb fl t f1.2
    have rv := KV.val rb p.1
    obtain ⟨k, v⟩ := q
    have ek : p.1 = k := h1
    subst ek
    show PySem.W.KeqHits A s vb ((p.1, v) :: va) ((match valV ls p.1 with | some y => eqV p.2 y | none => false) && dicAll ks ls)
    cases e : valV ls p.1 with
    | none =>
      rw [e] at rv
      have : valueAt vb p.1 = none := by
        cases e2 : valueAt vb p.1 with
        | none => rfl
        | some u => rw [e2] at rv; exact rv.elim
      exact .miss this
    | some y =>
      rw [e] at rv
      obtain ⟨u, e2, ru⟩ := RelO.some_of rv
      obtain ⟨pp, hp, hy⟩ := valV_mem e
      have fy : flatV y = true := by rw [← hy]; exact List.all_eq_true.mp fl pp hp
      exact .hit e2 (eqAt_V h2 ru f1.1 fy) ih
section
variable {X : Cx}
theorem op_eqDic (hu : X.A.units < cLine) : OpR X (compareOp .Eq) rEqDic := by
  intro pins s σ H x y v u Q I rx ry h
  obtain ⟨a, b, ks, ls, rfl, rfl, ea, eb, fa, fb, q⟩ := h
  obtain rfl : v = Value.ref a := rx
  obtain rfl : u = Value.ref b := ry
  obtain ⟨_, ya, va, ra, da⟩ := dk_rd I.hok ea
  obtain ⟨_, yb, vb, rb, db⟩ := dk_rd I.hok eb
  refine PySem.W.keq_eq (knd := mixKind X.prog X.w) (r := dicAll ks ls) ya yb da db hu (fun _ => hits_of rb fb ra fa) (fin_bl I q ?_)
  rw [← KV.length ra, ← KV.length rb]
  rfl
theorem op_neDic (hu : X.A.units < cLine) : OpR X (compareOp .NotEq) rNeDic := by
  intro pins s σ H x y v u Q I rx ry h
  obtain ⟨a, b, ks, ls, rfl, rfl, ea, eb, fa, fb, q⟩ := h
  obtain rfl : v = Value.ref a := rx
  obtain rfl : u = Value.ref b := ry
  obtain ⟨_, ya, va, ra, da⟩ := dk_rd I.hok ea
  obtain ⟨_, yb, vb, rb, db⟩ := dk_rd I.hok eb
  refine PySem.W.keq_ne (knd := mixKind X.prog X.w) (r := dicAll ks ls) ya yb da db hu (fun _ => hits_of rb fb ra fa) (fin_bl I q ?_)
  rw [← KV.length ra, ← KV.length rb]
  rfl
end
end Sl
/-! ## SlDc -/
set_option Elab.async false
set_option linter.all false
set_option maxRecDepth 100000
set_option maxHeartbeats 4000000
namespace Sl
open PySem PySem.Spec PyProof.Rows L2
/-- a dict's comprehension over a walk: Pv by the turn and the heap (the new dict at D within) -/
theorem dc_it {J : It} {n : Nat} {G : Hp → Prop} {Y : Nat → Hp → V → Hp → Prop} (w : Walk J n G Y) {g : TG} {tt : TT} {tk tv : TE} {vs : List Nat} {σ : L2.St} {H1 : Hp} {D : Addr} {Qd : Hp → Prop} (Pv : Nat → Hp → Prop) (h0 : Pv 0 (upd H1 D (.dK []))) (hG : ∀ i H, i ≤ n → Pv i H → G H)
    (hs : ∀ i x H H', i < n → Pv i H → Y i H x H' → g x (wipe σ vs) H' fun σ2 H2 => wipe σ2 vs = wipe σ vs ∧ tt σ2 H2 fun b H3 =>
      if b = true then tk σ2 H3 fun y H4 => tv σ2 H4 fun z H5 => ∃ kvs k, y = kV k ∧ H5 D = some (.dK kvs) ∧ kvs.length < sizeLine ∧ Pv (i + 1) (upd H5 D (.dK (putK kvs k z))) else Pv (i + 1) H3) (hd : ∀ H, Pv n H → Qd H) :
    ∃ W : Nat → Nat → Hp → Prop, (∃ m, W 0 m (upd H1 D (.dK []))) ∧ ∀ i m H, W i m H →
      (J.stop i H ∧ Qd H) ∨ (J.go i H ∧ ∃ Nx : Hp → Prop, (∀ H', Nx H' → ∃ m', m' < m ∧ W (i + 1) m' H') ∧ ∀ x H', J.yld i H x H' → g x (wipe σ vs) H' fun σ2 H2 => wipe σ2 vs = wipe σ vs ∧ tt σ2 H2 fun b H3 =>
        if b = true then tk σ2 H3 fun y H4 => tv σ2 H4 fun z H5 => ∃ kvs k, y = kV k ∧ H5 D = some (.dK kvs) ∧ kvs.length < sizeLine ∧ Nx (upd H5 D (.dK (putK kvs k z))) else Nx H3) := by
  refine ⟨fun i m H => m = n - i ∧ i ≤ n ∧ Pv i H, ⟨n, by simp, Nat.zero_le _, h0⟩, ?_⟩
  rintro i m H ⟨rfl, hi, p⟩
  have q := hG i H hi p
  by_cases hlt : i < n
  · refine .inr ⟨w.goes i H hlt q, Pv (i + 1), fun H' p' => ⟨n - (i + 1), by omega, rfl, hlt, p'⟩, fun x H' y => hs i x H H' hlt p (w.yields i H x H' hlt q y)⟩
  · have e : i = n := by omega
    subst e
    exact .inl ⟨w.stops H q, hd H p⟩
/-- two names, told as a tuple -/
theorem pg_two {X : Cx} {i j kk : Nat} {x y : Str} {p1 p2 pos : Pos} (hc : X.calm = true) (hN : X.N.Nodup) (hi : X.N[i]? = some x) (hj : X.N[j]? = some y) (hx : Loc X.env.scope x) (hy : Loc X.env.scope y)
    (fx : X.fn x = true ∨ X.env.scope.names.lookup x = some .local := by first | exact .inl rfl | exact .inr rfl | assumption) (fy : X.fn y = true ∨ X.env.scope.names.lookup y = some .local := by first | exact .inl rfl | exact .inr rfl | assumption) :
    PG X (.Tuple [.Name x p1, .Name y p2] kk pos) (gTup X.K 2 (gCons (gName i) (gCons (gName j) gNil))) :=
  pg_tup hc (pgs_cons (pg_name hN hi hx fx) (pgs_cons (pg_name hN hj hy fy) pgs_nil))
end Sl
/-! ## DicI -/
set_option Elab.async false
set_option linter.all false
set_option maxRecDepth 100000
set_option maxHeartbeats 4000000
/-! dicts of names and whole numbers -/
namespace Sl
open PySem PySem.Spec PyProof.Rows L2
abbrev NI : Type := List (Str × Int)
def kvi (p : Str × Int) : Key × V := (.inr p.1, .int p.2)
def dI (A : NI) : HO := .dK (A.map kvi)
def ks (A : NI) : List Str := A.map (·.1)
def get? (A : NI) (x : Str) : Option Int := (A.find? fun p => decide (p.1 = x)).map (·.2)
def get0 (A : NI) (x : Str) : Int := (get? A x).getD 0
def nz (A : NI) : NI := A.filter fun p => decide (p.2 ≠ 0)
theorem valV_kvi (A : NI) (x : Str) : valV (A.map kvi) (.inr x) = (get? A x).map V.int := by
  unfold valV get?
  induction A with
  | nil => rfl
  | cons p r ih =>
    by_cases h : p.1 = x
    · have h1 : (fun kv : Key × V => decide (kv.1 = Sum.inr x)) (kvi p) = true := decide_eq_true (congrArg Sum.inr h)
      rw [List.map_cons, List.find?_cons_of_pos (p := fun kv : Key × V => decide (kv.1 = Sum.inr x)) h1, List.find?_cons_of_pos (by simpa using h)]
      rfl
    · have h1 : ¬ (fun kv : Key × V => decide (kv.1 = Sum.inr x)) (kvi p) = true := by
        intro e
        exact h (Sum.inr.inj (of_decide_eq_true e))
      rw [List.map_cons, List.find?_cons_of_neg (p := fun kv : Key × V => decide (kv.1 = Sum.inr x)) h1, List.find?_cons_of_neg (by simpa using h)]
      exact ih
theorem putK_new (A : NI) (x : Str) (i : Int) (h : x ∉ ks A) : putK (A.map kvi) (.inr x) (.int i) = (A ++ [(x, i)]).map kvi := by
  unfold putK
  have hn : ((A.map kvi).any fun kv => decide (kv.1 = Sum.inr x)) = false := by
    rw [List.any_eq_false]
    intro kv hk e
    obtain ⟨p, hp, rfl⟩ := List.mem_map.mp hk
    exact h (List.mem_map.mpr ⟨p, hp, Sum.inr.inj (of_decide_eq_true e)⟩)
  rw [hn, if_neg Bool.false_ne_true, List.map_append]
  rfl
theorem mergeK_new : ∀ (B A : NI), (ks (A ++ B)).Nodup → mergeK (A.map kvi) (B.map kvi) = (A ++ B).map kvi
  | [], A, _ => by
    rw [List.append_nil]
    rfl
  | p :: r, A, h => by
    have h1 : p.1 ∉ ks A := fun hm => by
      unfold ks at h hm
      rw [List.map_append, List.nodup_append] at h
      exact h.2.2 p.1 hm p.1 (List.mem_map.mpr ⟨p, List.mem_cons_self, rfl⟩) rfl
    show mergeK (putK (A.map kvi) (.inr p.1) (.int p.2)) (r.map kvi) = _
    rw [putK_new A p.1 p.2 h1, mergeK_new r (A ++ [(p.1, p.2)]) (by simpa using h)]
    rw [List.append_assoc]
    rfl
theorem mergeK_nil {A : NI} (h : (ks A).Nodup) : mergeK [] (A.map kvi) = A.map kvi := by
  have := mergeK_new A [] (by simpa using h)
  simpa using this
theorem flat_dI (A : NI) : flatD (A.map kvi) = true := by
  unfold flatD
  rw [List.all_map]
  exact List.all_eq_true.mpr fun _ _ => rfl
theorem keys_kvi (A : NI) : (A.map kvi).map (·.1) = (ks A).map Sum.inr := by
  unfold ks
  rw [List.map_map, List.map_map]
  rfl
theorem vals_kvi (A : NI) : (A.map kvi).map (·.2) = (A.map (·.2)).map V.int := by
  rw [List.map_map, List.map_map]
  rfl
theorem get?_mem {A : NI} {x : Str} {i : Int} (h : get? A x = some i) : (x, i) ∈ A := by
  unfold get? at h
  cases e : A.find? fun p => decide (p.1 = x) with
  | none => rw [e] at h; cases h
  | some p =>
    rw [e] at h
    have h1 := List.mem_of_find?_eq_some e
    have h2 : p.1 = x := by simpa using List.find?_some e
    have h3 : p.2 = i := Option.some.inj h
    rw [← h2, ← h3]
    exact h1
theorem get?_none {A : NI} {x : Str} : get? A x = none ↔ x ∉ ks A := by
  unfold get? ks
  rw [Option.map_eq_none_iff, List.find?_eq_none]
  constructor
  · intro h hm
    obtain ⟨p, hp, e⟩ := List.mem_map.mp hm
    exact h p hp (by simpa using e)
  · intro h p hp e
    exact h (List.mem_map.mpr ⟨p, hp, by simpa using e⟩)
theorem get?_of {A : NI} {x : Str} {i : Int} (h : (ks A).Nodup) (hm : (x, i) ∈ A) : get? A x = some i := by
  induction A with
  | nil => cases hm
  | cons p r ih =>
    have h' : p.1 ∉ ks r ∧ (ks r).Nodup := List.nodup_cons.mp h
    rcases List.mem_cons.mp hm with e | hr
    · subst e
      show ((((x, i) : Str × Int) :: r).find? fun p => decide (p.1 = x)).map (·.2) = some i
      rw [List.find?_cons_of_pos (by simp)]
      rfl
    · have ne : p.1 ≠ x := fun e => h'.1 (List.mem_map.mpr ⟨(x, i), hr, e.symm⟩)
      have := ih h'.2 hr
      unfold get? at this ⊢
      rw [List.find?_cons_of_neg (by simpa using ne)]
      exact this
theorem nz_ks {A : NI} {x : Str} (h : x ∈ ks (nz A)) : x ∈ ks A := by
  obtain ⟨p, hp, e⟩ := List.mem_map.mp h
  exact List.mem_map.mpr ⟨p, (List.mem_filter.mp hp).1, e⟩
theorem nz_nodup {A : NI} (h : (ks A).Nodup) : (ks (nz A)).Nodup := List.Nodup.sublist (List.Sublist.map _ List.filter_sublist) h
theorem get0_nz {A : NI} (h : (ks A).Nodup) (x : Str) : get0 (nz A) x = get0 A x := by
  unfold get0
  cases e : get? A x with
  | none =>
    have : get? (nz A) x = none := get?_none.mpr fun hm => (get?_none.mp e) (nz_ks hm)
    rw [this]
  | some i =>
    have hm := get?_mem e
    by_cases hi : i = 0
    · subst hi
      have : get? (nz A) x = none := by
        refine get?_none.mpr fun hn => ?_
        obtain ⟨p, hp, ep⟩ := List.mem_map.mp hn
        obtain ⟨h1, h2⟩ := List.mem_filter.mp hp
        have e3 := get?_of h (show (x, p.2) ∈ A by rw [← ep]; exact h1)
        rw [e] at e3
        have : (0 : Int) = p.2 := Option.some.inj e3
        simp [← this] at h2
      rw [this]
      rfl
    · have : get? (nz A) x = some i := get?_of (nz_nodup h) (List.mem_filter.mpr ⟨hm, by simpa using hi⟩)
      rw [this]
theorem get?_nz {A : NI} (h : (ks A).Nodup) (x : Str) : get? (nz A) x = if get0 A x = 0 then none else some (get0 A x) := by
  have h0 := get0_nz h x
  by_cases hz : get0 A x = 0
  · rw [if_pos hz]
    cases e : get? (nz A) x with
    | none => rfl
    | some i =>
      have hm := (List.mem_filter.mp (get?_mem e)).2
      unfold get0 at h0
      rw [e] at h0
      have : i = 0 := by
        show (some i).getD 0 = 0
        rw [h0]
        exact hz
      simp [this] at hm
  · rw [if_neg hz]
    cases e : get? (nz A) x with
    | none =>
      exfalso
      unfold get0 at h0
      rw [e] at h0
      exact hz h0.symm
    | some i =>
      unfold get0 at h0
      rw [e] at h0
      exact congrArg some h0
/-! ### == of two -/
def eqI (A B : NI) : Bool := dicEq (A.map kvi) (B.map kvi)
theorem eqV_int (i j : Int) : eqV (.int i) (.int j) = (i == j) := rfl
theorem eqI_iff {A B : NI} (ha : (ks A).Nodup) (hb : (ks B).Nodup) : eqI A B = true ↔ ∀ x, get? A x = get? B x := by
  have hall : dicAll (A.map kvi) (B.map kvi) = true ↔ ∀ p ∈ A, get? B p.1 = some p.2 := by
    unfold dicAll
    rw [List.all_map, List.all_eq_true]
    constructor
    · intro h p hp
      have := h p hp
      show get? B p.1 = some p.2
      have e : (match valV (B.map kvi) (.inr p.1) with | some y => eqV (.int p.2) y | none => false) = true := this
      rw [valV_kvi] at e
      cases g : get? B p.1 with
      | none => rw [g] at e; cases e
      | some i =>
        rw [g] at e
        have : (p.2 == i) = true := e
        rw [eq_of_beq this]
    · intro h p hp
      show (match valV (B.map kvi) (.inr p.1) with | some y => eqV (.int p.2) y | none => false) = true
      rw [valV_kvi, h p hp]
      show (p.2 == p.2) = true
      simp
  unfold eqI dicEq
  rw [Bool.and_eq_true, hall, beq_iff_eq, List.length_map, List.length_map]
  constructor
  · rintro ⟨hl, h⟩ x
    -- A's keys are B's: as many, without doubles
    have sub : ∀ y ∈ ks A, y ∈ ks B := fun y hy => by
      obtain ⟨p, hp, e⟩ := List.mem_map.mp hy
      have := get?_mem (h p hp)
      exact List.mem_map.mpr ⟨(p.1, p.2), this, e⟩
    cases e : get? A x with
    | some i =>
      rw [h (x, i) (get?_mem e)]
    | none =>
      have hx := get?_none.mp e
      cases e2 : get? B x with
      | none => rfl
      | some j =>
        exfalso
        have hxb : x ∈ ks B := List.mem_map.mpr ⟨(x, j), get?_mem e2, rfl⟩
        obtain ⟨y, hy, hny⟩ := one_not_in (x :: ks A) ((ks B)) (List.nodup_cons.mpr ⟨hx, ha⟩) (by
          rw [List.length_cons]
          unfold ks
          rw [List.length_map, List.length_map]
          omega)
        rcases List.mem_cons.mp hy with e3 | e3
        · exact hny (e3 ▸ hxb)
        · exact hny (sub y e3)
  · intro h
    have hk : ∀ {A B : NI}, (ks A).Nodup → (∀ x, get? A x = get? B x) → A.length ≤ B.length := by
      intro A B ha h
      rcases Nat.lt_or_ge B.length A.length with hlt | hge
      · exfalso
        obtain ⟨y, hy, hny⟩ := one_not_in (ks A) (ks B) ha (by unfold ks; rw [List.length_map, List.length_map]; exact hlt)
        obtain ⟨p, hp, e⟩ := List.mem_map.mp hy
        have e1 := get?_of ha (show (p.1, p.2) ∈ A from hp)
        rw [h p.1] at e1
        exact hny (List.mem_map.mpr ⟨(p.1, p.2), get?_mem e1, e⟩)
      · exact hge
    refine ⟨Nat.le_antisymm (hk ha h) (hk hb fun x => (h x).symm), fun p hp => ?_⟩
    rw [← h p.1]
    exact get?_of ha hp
theorem nz_take {A : NI} {i : Nat} {p : Str × Int} (h : A[i]? = some p) : nz (A.take (i + 1)) = nz (A.take i) ++ (if p.2 ≠ 0 then [p] else []) := by
  unfold nz
  rw [List.take_succ, h, List.filter_append]
  congr 1
  show [p].filter _ = _
  by_cases hp : p.2 = 0
  · rw [List.filter_cons_of_neg (by simpa using hp), if_neg (by simpa using hp)]
    rfl
  · rw [List.filter_cons_of_pos (by simpa using hp), if_pos hp]
    rfl
theorem take_fresh {A : NI} (hn : (ks A).Nodup) {i : Nat} {p : Str × Int} (h : A[i]? = some p) : p.1 ∉ ks (A.take i) := by
  intro hm
  have h1 : (ks (A.take (i + 1))).Nodup := List.Nodup.sublist (List.Sublist.map _ (List.take_sublist _ _)) hn
  rw [List.take_succ, h] at h1
  unfold ks at h1 hm
  rw [List.map_append, List.nodup_append] at h1
  exact h1.2.2 p.1 hm p.1 (List.mem_map.mpr ⟨p, List.mem_singleton.mpr rfl, rfl⟩) rfl
theorem paired_at {α β : Type} {R : α → β → Prop} : ∀ {xs : List α} {ys : List β} {n : Nat} {a : α}, Paired R xs ys → xs[n]? = some a → ∃ b, ys[n]? = some b ∧ R a b
  | _, _, 0, _, .cons r _, e => ⟨_, rfl, by simp at e; rw [← e]; exact r⟩
  | _, _, n + 1, _, .cons _ t, e => let ⟨b, h1, h2⟩ := paired_at (n := n) t (by simpa using e); ⟨b, by simpa using h1, h2⟩
theorem paired_same {α β : Type} {R S : α → β → Prop} (h : ∀ a b, R a b → S a b) : ∀ {xs : List α} {ys : List β}, Paired R xs ys → Paired S xs ys
  | _, _, .nil => .nil
  | _, _, .cons r t => .cons (h _ _ r) (paired_same h t)
end Sl
/-! ## ValA -/
set_option Elab.async false
set_option linter.all false
set_option maxRecDepth 100000
set_option maxHeartbeats 8000000
namespace Lw
open PySem PySem.Spec PyProof.Rows L2 Sl
section
variable {P : Program} {w : World} {K : PySem.W.Frag} {mg : Str → Option Value} {base : Heap} {f : Addr} {fd : FuncData}
/-! ### names and whole numbers told apart -/
def sp_isname (K : PySem.W.Frag) : Sp := fun vs H Q _ => ∃ v, vs = [v] ∧ ((∃ z : Str, v = .str z ∧ z.length ≤ 1000 ∧ ∀ H', Same H H' → Q (.bl (nameB z)) H') ∨ ∃ t, TyX K H v t ∧ PySem.W.kitOne K t (.type "str") = some false ∧ ∀ H', Same H H' → Q (.bl false) H')
theorem ok_is_name (F : FnP K "is_name" s_is_name [] f fd) (mI : mg "isinstance" = none) (mS : mg "str" = none) (mL : mg "len" = none) (mA : mg "all" = none) {t1 t2 : Tok} (gL : mg "LETTERS" = some (.str alpha t1)) (gM : mg "MOST_LETTERS" = some (.int 8 t2)) :
    FnOk P w K mg base CX0 1 f fd ["thing"] (sp_isname K) := by
  refine F.ok sc_is_name (fun vs H Q E h => ?_) (fun cdv A outer s H vs Q E hr h => ?_)
  · obtain ⟨v, rfl, _⟩ := h
    rfl
  · obtain ⟨v, rfl, h⟩ := h
    have nd := sc_is_name.nd
    refine ⟨_, PSs.nox (pss_cons (ps_if (PW.pt (pw_or (pt_not (pt_val (pe_callB call_isi (by rfl) mI PyProof.Rows.Boot.«isinstance» (pa_cons (pv 0) (pa_cons (pe_bltn (v := .ty "str") (by rfl) mS PyProof.Rows.Boot.«str» rfl) pa_nil)))))
          (pw_or1 (pt_not (pt_chain op_le op_le pe_int (pe_callB call_len_str (by rfl) mL boot_len (pa_cons (pv 0) pa_nil)) (pe_glob (v := .int 8) (by rfl) gM ⟨_, rfl⟩))))))
        (pss_one (ps_ret pe_bl)) pss_nil)
      (pss_one (ps_ret (pe_callB (cr_all rfl) (by rfl) mA PyProof.Rows.Boot.«all» (pa_cons (pe_lc (own := [("letter", 1)]) (g := gName 1) (tt := tYes) rfl nd (pi_str (pv 0)) (blkOk_by (N := ["thing", "letter"]) (sc := defScope s_is_name) (by decide +kernel)) (fun _ _ _ _ _ => pg_name (i := 1) nd rfl (Or.inl rfl)) (fun _ _ _ _ _ => pts_nil)
          (fun _ _ _ _ _ => pe_cmpR op_in_sign (pv 1) (pe_glob (v := .str alpha) (by rfl) gL ⟨_, rfl⟩) (by rfl))) pa_nil))))), ?_⟩
    rcases h with ⟨z, rfl, hz, k⟩ | ⟨t, ht, hk, k⟩
    · refine ifs_of ⟨_, rfl, _, .ty "str", .type "str", .type "str", true, rfl, .ty _, .base (.str _), kit_ty (by decide +kernel), _, rfl, iteF ?_⟩
      refine ⟨_, rfl, z, rfl, (by rw [sizeLine_eq]; omega), 1, (z.length : Int), rfl, rfl, _, rfl, ite_of (fun h1 => ⟨(z.length : Int), 8, rfl, rfl, _, rfl, ?_⟩) (fun h1 => ⟨_, rfl, iteT (?_ : Q _ _)⟩)⟩
      · cases h8 : decide ((z.length : Int) ≤ 8) with
        | false =>
          refine iteT ?_
          have e : nameB z = false := by
            unfold nameB
            have : decide (z.length ≤ 8) = false := decide_eq_false (by have := of_decide_eq_false h8; omega)
            rw [this]
            simp
          have := k H fun _ _ e => e
          rw [e] at this
          exact this
        | true =>
          refine iteF (nx_of ?_)
          refine ⟨_, rfl, z, rfl, fun D hD => ?_⟩
          refine lc_it walk_str (fun i H' => Same H H' ∧ H' D = some (.lst (((z.cps.toList.take i).map letB).map V.bl))) ⟨same_new hD, upd_same⟩ (fun _ _ _ _ => trivial) ?_ ?_
          · intro i x Ha Hb hi ⟨s1, hd1⟩ ⟨e, c, hc, ex⟩
            subst e ex
            refine ⟨rfl, yes_of (iteT ?_)⟩
            refine ⟨_, rfl, c, alpha, rfl, rfl, _, hd1, ?_, ?_, ?_⟩
            · rw [List.length_map, List.length_map, List.length_take, Array.length_toList, sizeLine_eq]
              have : z.cps.size ≤ 1000 := hz
              omega
            · intro b o e
              rw [upd_ne (ne_of_none e hD)]
              exact s1 _ _ e
            · have hc' : z.cps.toList[i]? = some c := by
                rw [Array.getElem?_toList]
                exact hc
              rw [upd_same, List.take_succ, hc', List.map_append, List.map_append]
              rfl
          · intro H4 ⟨s4, hd4⟩
            refine ⟨D, _, rfl, SqL.of hd4, ?_⟩
            have e : nameB z = (((z.cps.toList.take z.cps.size).map letB).all id) := by
              unfold nameB
              have h1' : decide (1 ≤ z.length) = true := decide_eq_true (by have := of_decide_eq_true h1; omega)
              have h8' : decide (z.length ≤ 8) = true := decide_eq_true (by have := of_decide_eq_true h8; omega)
              rw [h1', h8', List.all_map, show z.cps.toList.take z.cps.size = z.cps.toList from by rw [← Array.length_toList]; exact List.take_length]
              rfl
            rw [← e]
            exact k H4 s4
      · have e : nameB z = false := by
          unfold nameB
          have : decide (1 ≤ z.length) = false := decide_eq_false (by have := of_decide_eq_false h1; omega)
          rw [this]
          rfl
        have := k H fun _ _ e => e
        rw [e] at this
        exact this
    · exact ifs_of ⟨_, rfl, _, .ty "str", t, .type "str", false, rfl, .ty _, ht, hk, _, rfl, iteT (iteT (k H fun _ _ e => e))⟩
end
end Lw
/-! ## ValB -/
set_option Elab.async false
set_option linter.all false
set_option maxRecDepth 100000
set_option maxHeartbeats 8000000
namespace Lw
open PySem PySem.Spec PyProof.Rows L2 Sl
section
variable {P : Program} {w : World} {K : PySem.W.Frag} {mg : Str → Option Value} {base : Heap} {f : Addr} {fd : FuncData}
def sp_isint (K : PySem.W.Frag) : Sp := fun vs H Q _ => ∃ i : Int, vs = [.int i] ∧ Q (.bl true) H
theorem ok_is_integer (F : FnP K "is_integer" s_is_integer [] f fd) (mI : mg "isinstance" = none) (mN : mg "int" = none) (mB : mg "bool" = none) : FnOk P w K mg base CX0 1 f fd ["thing"] (sp_isint K) := by
  refine F.ok sc_is_integer (fun vs H Q E h => ?_) (fun cdv A outer s H vs Q E hr h => ?_)
  · obtain ⟨v, rfl, _⟩ := h
    rfl
  · obtain ⟨i, rfl, k⟩ := h
    refine ⟨_, PSs.nox (pss_one (ps_ret (pe_and (pe_callB call_isi (by rfl) mI PyProof.Rows.Boot.«isinstance» (pa_cons (pv 0) (pa_cons (pe_bltn (v := .ty "int") (by rfl) mN PyProof.Rows.Boot.«int» rfl) pa_nil)))
      (pe_one (pe_not (pe_callB call_isi (by rfl) mI PyProof.Rows.Boot.«isinstance» (pa_cons (pv 0) (pa_cons (pe_bltn (v := .ty "bool") (by rfl) mB PyProof.Rows.Boot.«bool» rfl) pa_nil)))))))), ?_⟩
    exact ⟨_, rfl, _, .ty "int", .type "int", .type "int", true, rfl, .ty _, .base (.int _), kit_ty (by decide +kernel), _, rfl, iteT ⟨_, rfl, _, .ty "bool", .type "int", .type "bool", false, rfl, .ty _, .base (.int _), kit_ty (by decide +kernel), _, rfl, k⟩⟩
def sp_islist (K : PySem.W.Frag) : Sp := fun vs H Q _ => ∃ (v : V) (t : Value), vs = [v] ∧ TyX K H v t ∧ PySem.W.kitAny K t [.type "list", .type "tuple"] = some true ∧ ∀ H', Same H H' → Q (.bl true) H'
theorem ok_is_list (F : FnP K "is_list" s_is_list [] f fd) (mI : mg "isinstance" = none) (mL : mg "list" = none) (mT : mg "tuple" = none) : FnOk P w K mg base CX0 1 f fd ["thing"] (sp_islist K) := by
  refine F.ok sc_is_list (fun vs H Q E h => ?_) (fun cdv A outer s H vs Q E hr h => ?_)
  · obtain ⟨v, t, rfl, _⟩ := h
    rfl
  · obtain ⟨v, t, rfl, ht, hk, k⟩ := h
    refine ⟨_, PSs.nox (pss_one (ps_ret (pe_callB call_isiT (by rfl) mI PyProof.Rows.Boot.«isinstance» (pa_cons (pv 0) (pa_cons (pe_tup (pa_cons (pe_bltn (v := .ty "list") (by rfl) mL PyProof.Rows.Boot.«list» rfl) (pa_cons (pe_bltn (v := .ty "tuple") (by rfl) mT PyProof.Rows.Boot.«tuple» rfl) pa_nil))) pa_nil))))), ?_⟩
    refine ⟨_, rfl, (by show 2 ≤ sizeLine; decide), fun p hp => ?_⟩
    refine ⟨v, p, _, t, _, true, rfl, upd_same, .cons (.ty _) (.cons (.ty _) .nil), ?_, hk, k _ (same_new hp)⟩
    exact TyX.same ht (same_new hp)
end
end Lw
/-! ## ValC -/
set_option Elab.async false
set_option linter.all false
set_option maxRecDepth 100000
set_option maxHeartbeats 8000000
namespace Lw
open PySem PySem.Spec PyProof.Rows L2 Sl
section
variable {P : Program} {w : World} {K : PySem.W.Frag} {mg : Str → Option Value} {base : Heap} {f : Addr} {fd : FuncData}
theorem any_tuple : PySem.W.kitAny K (.type "tuple") [.type "list", .type "tuple"] = some true := by
  have h1 : PySem.W.kitOne K (.type "tuple") (.type "list") = some false := kit_ty (by decide +kernel)
  have h2 : PySem.W.kitOne K (.type "tuple") (.type "tuple") = some true := kit_ty (by decide +kernel)
  unfold PySem.W.kitAny
  rw [h1]
  unfold PySem.W.kitAny
  rw [h2]
theorem any_list : PySem.W.kitAny K (.type "list") [.type "list", .type "tuple"] = some true := by
  have h1 : PySem.W.kitOne K (.type "list") (.type "list") = some true := kit_ty (by decide +kernel)
  unfold PySem.W.kitAny
  rw [h1]
/-- what is told: a dict, or an empty tuple or list -/
def KTup (K : PySem.W.Frag) (a : Addr) : Prop := ∀ H, SqT K H a [] ∧ TyX K H (.ref a) (.type "tuple")
def PArg (K : PySem.W.Frag) (H : Hp) (a : Addr) (A : NI) : Prop := H a = some (dI A) ∨ A = [] ∧ (H a = some (.tup []) ∨ H a = some (.lst []) ∨ KTup K a)
theorem sqT_same {K : PySem.W.Frag} {a : Addr} {H H' : Hp} {xs : List V} (h : SqT K H a xs) (k : Same H H') : SqT K H' a xs := by
  rcases h with (h | ⟨o, h⟩) | h
  · exact .inl (.inl (k _ _ h))
  · exact .inl (.inr ⟨o, k _ _ h⟩)
  · exact .inr h
theorem PArg.imp {H H' : Hp} {a : Addr} {A : NI} (h : PArg K H a A) (k : ∀ o, (o = dI A ∨ o = .tup [] ∨ o = .lst []) → H a = some o → H' a = some o) : PArg K H' a A := by
  rcases h with h | ⟨e, h | h | h⟩
  · exact .inl (k _ (.inl rfl) h)
  · exact .inr ⟨e, .inl (k _ (.inr (.inl rfl)) h)⟩
  · exact .inr ⟨e, .inr (.inl (k _ (.inr (.inr rfl)) h))⟩
  · exact .inr ⟨e, .inr (.inr h)⟩
theorem PArg.same {H H' : Hp} {a : Addr} {A : NI} (h : PArg K H a A) (k : Same H H') : PArg K H' a A := h.imp fun o _ e => k _ _ e
def sp_pairs (K : PySem.W.Frag) : Sp := fun vs H Q _ => ∃ (a : Addr) (A : NI), vs = [.ref a] ∧ PArg K H a A ∧
  ∀ (l : Addr) (ts : List Addr) (H' : Hp), H l = none → Same H H' → H' l = some (.lst (ts.map V.ref)) → Paired (fun (t : Addr) (q : Key × V) => H' t = some (.tup [kV q.1, q.2])) ts (A.map kvi) → Q (.ref l) H'
theorem ok_pairs (F : FnP K "pairs_of" s_pairs_of [] f fd) (I : Cal P w K mg base 1 "is_list" [] (sp_islist K)) (mI : mg "isinstance" = none) (mD : mg "dict" = none) (mL : mg "list" = none) (mLen : mg "len" = none) :
    FnOk P w K mg base CX0 2 f fd ["thing"] (sp_pairs K) := by
  refine F.ok sc_pairs_of (fun vs H Q E h => ?_) (fun cdv A outer s H vs Q E hr h => ?_)
  · obtain ⟨v, t, rfl, _⟩ := h
    rfl
  · obtain ⟨a, A, rfl, ha, k⟩ := h
    refine ⟨_, PSs.nox (pss_cons (ps_if (pt_val (pe_callB call_isi (by rfl) mI PyProof.Rows.Boot.«isinstance» (pa_cons (pv 0) (pa_cons (pe_bltn (v := .ty "dict") (by rfl) mD PyProof.Rows.Boot.«dict» rfl) pa_nil))))
        (pss_one (ps_ret (LiI.pe_listItems rfl (pv 0) (by rfl) mL PyProof.Rows.Boot.«list»))) pss_nil)
      (pss_cons (ps_if (PW.pt (pw_and (pt_val (pe_cal I hr (pa_cons (pv 0) pa_nil))) (pw_and1 (pt_cmpR op_eq (pe_callB call_len_seq (by rfl) mLen boot_len (pa_cons (pv 0) pa_nil)) pe_int (nomark _)))))
        (pss_one (ps_ret (pe_lst pa_nil))) pss_nil)
      (pss_one ps_never))), ?_⟩
    rcases ha with ha | ⟨e, ha⟩
    · refine ifs_of ⟨_, rfl, _, .ty "dict", .type "dict", .type "dict", true, rfl, .ty _, .base (.dK ha), kit_ty (by decide +kernel), _, rfl, iteT ?_⟩
      exact ⟨_, rfl, a, _, rfl, ha, fun H' p ts sm hp _ _ hl hP => k p ts H' hp sm hl hP⟩
    · subst e
      have fin : ∀ H', Same H H' → ∀ p, H' p = none → Q (.ref p) (upd H' p (.lst [])) := fun H' sm p hp => k p [] _ (by
        cases e : H p with
        | none => rfl
        | some o => rw [sm _ _ e] at hp; cases hp) (sm.trans (same_new hp)) upd_same .nil
      have tp : ∀ (sq : SqT K H a []) (ty : TyX K H (.ref a) (.type "tuple")), PySem.W.kitOne K (.type "tuple") (.type "dict") = some false := fun _ _ => kit_ty (by decide +kernel)
      have c2 : (H a = some (.lst [])) ∨ (SqT K H a [] ∧ TyX K H (.ref a) (.type "tuple")) := by
        rcases ha with ha | ha | ha
        · exact .inr ⟨SqT.of ha, .base (.tup ha)⟩
        · exact .inl ha
        · exact .inr (ha H)
      rcases c2 with ha | ⟨ha, ty⟩
      · refine ifs_of ⟨_, rfl, _, .ty "dict", _, .type "dict", false, rfl, .ty _, .base (.lst ha), kit_ty (by decide +kernel), _, rfl, iteF (nx_of ?_)⟩
        refine ifs_of ⟨_, rfl, _, _, rfl, .base (.lst ha), any_list, fun H' sm => ⟨_, rfl, iteT ⟨_, rfl, a, [], rfl, .inl (SqL.of (sm _ _ ha)), rfl, _, rfl, iteT ⟨Nat.zero_le _, fun p hp => fin H' sm p hp⟩⟩⟩⟩
      · refine ifs_of ⟨_, rfl, _, .ty "dict", _, .type "dict", false, rfl, .ty _, ty, kit_ty (by decide +kernel), _, rfl, iteF (nx_of ?_)⟩
        refine ifs_of ⟨_, rfl, _, _, rfl, ty, any_tuple, fun H' sm => ⟨_, rfl, iteT ⟨_, rfl, a, [], rfl, .inr (sqT_same ha sm), rfl, _, rfl, iteT ⟨Nat.zero_le _, fun p hp => fin H' sm p hp⟩⟩⟩⟩
end
end Lw
/-! ## ValD -/
set_option Elab.async false
set_option linter.all false
set_option maxRecDepth 100000
set_option maxHeartbeats 8000000
namespace Lw
open PySem PySem.Spec PyProof.Rows L2 Sl
section
variable {P : Program} {w : World} {K : PySem.W.Frag} {mg : Str → Option Value} {base : Heap} {f : Addr} {fd : FuncData}
def okNI (A : NI) (b : Bool) : Prop := (ks A).Nodup ∧ (∀ p ∈ A, nameB p.1 = true) ∧ (b = true ∨ ∀ p ∈ A, 0 ≤ p.2) ∧ A.length ≤ 1000
def sp_named (K : PySem.W.Frag) : Sp := fun vs H Q _ => ∃ (a : Addr) (b : Bool) (A : NI), vs = [.ref a, .bl b] ∧ PArg K H a A ∧ okNI A b ∧ ∀ (d : Addr) (H' : Hp), H d = none → Same H H' → H' d = some (dI (nz A)) → Q (.ref d) H'
theorem ok_named (F : FnP K "named_integers" s_named_integers [] f fd) (Pr : Cal P w K mg base 2 "pairs_of" [] (sp_pairs K)) (N : Cal P w K mg base 1 "is_name" [] (sp_isname K)) (I : Cal P w K mg base 1 "is_integer" [] (sp_isint K)) :
    FnOk P w K mg base CX0 3 f fd ["told", "may_be_negative"] (sp_named K) := by
  refine F.ok sc_named_integers (fun vs H Q E h => ?_) (fun cdv A outer s H vs Q E hr h => ?_)
  · obtain ⟨a, b, A, rfl, _⟩ := h
    rfl
  · obtain ⟨a, b, A, rfl, ha, ⟨hnd, hnm, hb, hl⟩, k⟩ := h
    have nd := sc_named_integers.nd
    have hr1 := hr.mono (show 1 ≤ 2 by decide)
    refine ⟨_, PSs.nox (pss_cons (ps_set (i := 2) nd rfl (.inl rfl) (pe_cal Pr hr (pa_cons (pv 0) pa_nil)))
      (pss_cons (ps_for PassesOwn.never rfl (pi_list (pv 2)) (pg_tup rfl (pgs_cons (pg_name (i := 3) nd rfl (Or.inl rfl)) (pgs_cons (pg_name (i := 4) nd rfl (Or.inl rfl)) pgs_nil)))
        (pss_cons (ps_if (PW.pt (pw_or (pt_not (pt_val (pe_cal N hr1 (pa_cons (pv 3) pa_nil)))) (pw_or1 (pt_not (pt_val (pe_cal I hr1 (pa_cons (pv 4) pa_nil))))))) (pss_one ps_never) pss_nil)
        (pss_one (ps_if (PW.pt (pw_and (pt_cmpR op_lt (pv 4) pe_int (nomark _)) (pw_and1 (pt_not (pt_val (pv 1)))))) (pss_one ps_never) pss_nil))))
      (pss_one (ps_ret (pe_dc (own := [("name", 3), ("number", 4)]) (g := gTup K 2 (gCons (gName 3) (gCons (gName 4) gNil))) rfl nd (pi_list (pv 2)) (blkOk_by (N := ["told", "may_be_negative", "pairs", "name", "number"]) (sc := defScope s_named_integers) (by decide +kernel))
        (fun _ _ _ _ _ => pg_two (i := 3) (j := 4) rfl nd rfl rfl (Or.inl rfl) (Or.inl rfl))
        (fun _ _ _ _ _ => pts_one (pt_cmpR op_ne (pv 4) pe_int (nomark _))) (fun _ _ _ _ _ => pv 3) (fun _ _ _ _ _ => pv 4)))))), ?_⟩
    show tSeq (tAsg _ (gName 2)) _ _ [some (V.ref a), some (V.bl b), none, none, none] H
    refine asg_of ⟨_, rfl, a, A, rfl, ha, fun l ts H1 hl1 s1 hls hP => ?_⟩
    have hlen : ts.length = A.length := by
      have := hP.length
      rwa [List.length_map] at this
    have tup : ∀ (i : Nat) (t : Addr), ts[i]? = some t → ∃ p : Str × Int, A[i]? = some p ∧ H1 t = some (.tup [.str p.1, .int p.2]) := fun i t e => by
      obtain ⟨q, hq, hr⟩ := paired_at hP e
      rw [List.getElem?_map] at hq
      obtain ⟨p, hp, ep⟩ := Option.map_eq_some_iff.mp hq
      subst ep
      exact ⟨p, hp, hr⟩
    show tSeq (tFor (iList K (tVar 2)) _ _) _ _ [some (V.ref a), some (V.bl b), some (V.ref l), none, none] H1
    refine ⟨_, rfl, l, rfl, ⟨_, SqL.of hls⟩, ?_⟩
    refine for_list (K := K) (a := l) (xs := ts.map V.ref) (fun i σ H' => Same H1 H' ∧ ∃ y z, σ = [some (V.ref a), some (V.bl b), some (V.ref l), y, z]) ⟨fun _ _ e => e, none, none, rfl⟩ (fun i σ H' _ ⟨s2, _⟩ => SqL.of (s2 _ _ hls)) ?_ ?_
    · intro i x σ H' hx ⟨s2, y, z, e⟩
      subst e
      rw [List.getElem?_map] at hx
      obtain ⟨t, et, ex⟩ := Option.map_eq_some_iff.mp hx
      subst ex
      obtain ⟨p, hp, ht⟩ := tup i t et
      have hpA := List.mem_of_getElem? hp
      refine ⟨t, _, rfl, SqT.of (s2 _ _ ht), rfl, _, _, rfl, _, _, rfl, rfl, ?_⟩
      refine ifs_of (or_of ⟨_, rfl, _, rfl, .inl ⟨p.1, rfl, (by have := nameB_len (hnm p hpA); omega), fun H3 s3 => ⟨_, rfl, ?_⟩⟩⟩)
      rw [hnm p hpA]
      refine iteF ⟨_, rfl, p.2, rfl, true, rfl, iteF (nx_of ?_)⟩
      refine ⟨_, rfl, p.2, 0, rfl, rfl, _, rfl, ?_⟩
      refine ite_of (fun hneg => ⟨_, rfl, b, rfl, ?_⟩) (fun _ => iteF ⟨s2.trans s3, _, _, rfl⟩)
      have hneg' := of_decide_eq_true hneg
      rcases hb with hb | hb
      · rw [hb]
        exact iteF ⟨s2.trans s3, _, _, rfl⟩
      · have := hb p hpA
        omega
    · intro σ H2 ⟨s2, y, z, e⟩
      subst e
      refine ⟨_, rfl, l, rfl, ⟨_, SqL.of (s2 _ _ hls)⟩, fun D hD => ?_⟩
      refine dc_it (walk_list (xs := ts.map V.ref)) (fun i H' => Same H2 H' ∧ H' D = some (dI (nz (A.take i)))) ⟨same_new hD, upd_same⟩ (fun i H' _ ⟨s3, _⟩ => SqL.of (s3 _ _ (s2 _ _ hls))) ?_ ?_
      · intro i x Ha Hb hi ⟨s3, hd⟩ ⟨e, hx⟩
        subst e
        rw [List.getElem?_map] at hx
        obtain ⟨t, et, ex⟩ := Option.map_eq_some_iff.mp hx
        subst ex
        obtain ⟨p, hp, ht⟩ := tup i t et
        refine ⟨t, _, rfl, SqT.of (s3 _ _ (s2 _ _ ht)), rfl, _, _, rfl, _, _, rfl, rfl, rfl, ?_⟩
        refine ⟨_, rfl, rfl, _, rfl, ite_of (fun hne => ?_) (fun he => ?_)⟩
        · have hne' : p.2 ≠ 0 := fun e => by
            rw [e] at hne
            cases hne
          refine ⟨_, rfl, _, rfl, _, .inr p.1, rfl, hd, ?_, ?_, ?_⟩
          · rw [List.length_map, sizeLine_eq]
            have h1 : (nz (A.take i)).length ≤ (A.take i).length := List.length_filter_le _ _
            rw [List.length_take] at h1
            omega
          · intro c o e
            rw [upd_ne (ne_of_none e hD)]
            exact s3 _ _ e
          · rw [upd_same, putK_new _ _ _ (fun hm => take_fresh hnd hp (nz_ks hm)), nz_take hp, if_pos hne']
            rfl
        · have he' : p.2 = 0 := by
            have h1 : (!decide (V.int p.2 = V.int 0)) = false := he
            have h2 : decide (V.int p.2 = V.int 0) = true := by simpa using h1
            exact V.int.inj (of_decide_eq_true h2)
          refine ⟨s3, ?_⟩
          rw [nz_take hp, if_neg (fun h => h he'), List.append_nil]
          exact hd
      · intro H3 ⟨s3, hd⟩
        have e : A.take (ts.map V.ref).length = A := by
          rw [List.length_map, hlen]
          exact List.take_length
        rw [e] at hd
        refine k D H3 ?_ (s1.trans (s2.trans s3)) hd
        cases eD : H D with
        | none => rfl
        | some o => rw [s2 _ _ (s1 _ _ eD)] at hD; cases hD
end
end Lw
/-! ## DicU -/
set_option Elab.async false
set_option linter.all false
set_option maxRecDepth 100000
set_option maxHeartbeats 4000000
namespace Sl
open PySem PySem.Spec PyProof.Rows L2
/-! the keys of two dicts together -/
def putI (A : NI) (x : Str) (i : Int) : NI := if x ∈ ks A then A.map (fun p => if p.1 = x then (p.1, i) else p) else A ++ [(x, i)]
def mrgI (A B : NI) : NI := B.foldl (fun acc p => putI acc p.1 p.2) A
theorem putK_kvi (A : NI) (x : Str) (i : Int) : putK (A.map kvi) (.inr x) (.int i) = (putI A x i).map kvi := by
  by_cases h : x ∈ ks A
  · unfold putI
    rw [if_pos h]
    unfold putK
    have hn : ((A.map kvi).any fun kv => decide (kv.1 = Sum.inr x)) = true := by
      obtain ⟨p, hp, e⟩ := List.mem_map.mp h
      exact List.any_eq_true.mpr ⟨kvi p, List.mem_map.mpr ⟨p, hp, rfl⟩, decide_eq_true (congrArg Sum.inr e)⟩
    rw [if_pos hn, List.map_map, List.map_map]
    refine List.map_congr_left fun p _ => ?_
    show (if (kvi p).1 = Sum.inr x then ((kvi p).1, V.int i) else kvi p) = kvi (if p.1 = x then (p.1, i) else p)
    by_cases e : p.1 = x
    · rw [if_pos e, if_pos (show (kvi p).1 = Sum.inr x from congrArg Sum.inr e)]
      rfl
    · rw [if_neg e, if_neg (show ¬ (kvi p).1 = Sum.inr x from fun q => e (Sum.inr.inj q))]
  · rw [putK_new A x i h]
    unfold putI
    rw [if_neg h]
theorem mergeK_kvi : ∀ (B A : NI), mergeK (A.map kvi) (B.map kvi) = (mrgI A B).map kvi
  | [], _ => rfl
  | p :: r, A => by
    show mergeK (putK (A.map kvi) (.inr p.1) (.int p.2)) (r.map kvi) = (mrgI (putI A p.1 p.2) r).map kvi
    rw [putK_kvi, mergeK_kvi r]
theorem ks_putI (A : NI) (x : Str) (i : Int) : ks (putI A x i) = if x ∈ ks A then ks A else ks A ++ [x] := by
  unfold putI
  by_cases h : x ∈ ks A
  · rw [if_pos h, if_pos h]
    unfold ks
    rw [List.map_map]
    refine List.map_congr_left fun p _ => ?_
    show (if p.1 = x then (p.1, i) else p).1 = p.1
    by_cases e : p.1 = x
    · rw [if_pos e]
    · rw [if_neg e]
  · rw [if_neg h, if_neg h]
    unfold ks
    rw [List.map_append]
    rfl
theorem putI_keys {A : NI} (x : Str) (i : Int) (h : (ks A).Nodup) : (ks (putI A x i)).Nodup ∧ ∀ y, y ∈ ks (putI A x i) ↔ y ∈ ks A ∨ y = x := by
  rw [ks_putI]
  by_cases hx : x ∈ ks A
  · rw [if_pos hx]
    refine ⟨h, fun y => ⟨.inl, fun q => ?_⟩⟩
    rcases q with q | q
    · exact q
    · rw [q]
      exact hx
  · rw [if_neg hx]
    refine ⟨List.nodup_append.mpr ⟨h, by simp, fun a ha b hb e => hx ?_⟩, fun y => by simp⟩
    rw [← List.mem_singleton.mp hb, ← e]
    exact ha
theorem mrgI_keys : ∀ (B A : NI), (ks A).Nodup → (ks (mrgI A B)).Nodup ∧ ∀ y, y ∈ ks (mrgI A B) ↔ y ∈ ks A ∨ y ∈ ks B
  | [], A, h => ⟨h, fun y => ⟨.inl, fun q => q.elim id fun q => absurd q List.not_mem_nil⟩⟩
  | p :: r, A, h => by
    obtain ⟨h1, h2⟩ := putI_keys p.1 p.2 h
    obtain ⟨h3, h4⟩ := mrgI_keys r (putI A p.1 p.2) h1
    refine ⟨h3, fun y => ?_⟩
    show y ∈ ks (mrgI (putI A p.1 p.2) r) ↔ y ∈ ks A ∨ y ∈ p.1 :: ks r
    rw [h4 y, h2 y, List.mem_cons, or_assoc]
theorem mrgI_len : ∀ (B A : NI), (mrgI A B).length ≤ A.length + B.length
  | [], A => Nat.le_refl _
  | p :: r, A => by
    have := mrgI_len r (putI A p.1 p.2)
    have h2 : (putI A p.1 p.2).length ≤ A.length + 1 := by
      unfold putI
      split
      · rw [List.length_map]
        omega
      · rw [List.length_append]
        exact Nat.le_refl _
    show (mrgI (putI A p.1 p.2) r).length ≤ A.length + (r.length + 1)
    omega
theorem get0_map {U : List Str} (hU : U.Nodup) (g : Str → Int) (x : Str) : get0 (U.map fun y => (y, g y)) x = if x ∈ U then g x else 0 := by
  by_cases h : x ∈ U
  · rw [if_pos h]
    unfold get0
    rw [get?_of (A := U.map fun y => (y, g y)) (i := g x) ?_ (List.mem_map.mpr ⟨x, h, rfl⟩)]
    · rfl
    · show (List.map _ _).Nodup
      rw [List.map_map]
      have : (U.map ((fun p : Str × Int => p.1) ∘ fun y => (y, g y))) = U := by
        have : ((fun p : Str × Int => p.1) ∘ fun y => (y, g y)) = id := rfl
        rw [this, List.map_id]
      rw [this]
      exact hU
  · rw [if_neg h]
    unfold get0
    have : get? (U.map fun y => (y, g y)) x = none := get?_none.mpr fun hm => h (by
      obtain ⟨p, hp, e⟩ := List.mem_map.mp hm
      obtain ⟨y, hy, ey⟩ := List.mem_map.mp hp
      subst ey
      exact e ▸ hy)
    rw [this]
    rfl
theorem ks_map (U : List Str) (g : Str → Int) : ks (U.map fun y => (y, g y)) = U := by
  unfold ks
  rw [List.map_map]
  exact List.map_id U
theorem get0_none {A : NI} {x : Str} (h : x ∉ ks A) : get0 A x = 0 := by
  unfold get0
  rw [get?_none.mpr h]
  rfl
end Sl
/-! ## ValE -/
set_option Elab.async false
set_option linter.all false
set_option maxRecDepth 100000
set_option maxHeartbeats 8000000
namespace Lw
open PySem PySem.Spec PyProof.Rows L2 Sl
section
variable {P : Program} {w : World} {K : PySem.W.Frag} {mg : Str → Option Value} {base : Heap} {f : Addr} {fd : FuncData}
def sp_sums : Sp := fun vs H Q _ => ∃ (a b : Addr) (A B : NI), vs = [.ref a, .ref b] ∧ H a = some (dI A) ∧ H b = some (dI B) ∧ (ks A).Nodup ∧ (ks B).Nodup ∧ A.length ≤ 400 ∧ B.length ≤ 400 ∧
  ∀ (d : Addr) (S : NI) (H' : Hp), H d = none → Same H H' → H' d = some (dI S) → (ks S).Nodup → (∀ x, x ∈ ks S ↔ x ∈ ks A ∨ x ∈ ks B) → (∀ x, get0 S x = get0 A x + get0 B x) → S.length ≤ 800 → Q (.ref d) H'
theorem ok_sums (F : FnP K "sums" s_sums [] f fd) : FnOk P w K mg base CX0 1 f fd ["one", "other"] sp_sums := by
  refine F.ok sc_sums (fun vs H Q E h => ?_) (fun cdv A outer s H vs Q E hr h => ?_)
  · obtain ⟨a, b, A, B, rfl, _⟩ := h
    rfl
  · obtain ⟨a, b, A, B, rfl, ha, hb, na, nb, la, lb, k⟩ := h
    have nd := sc_sums.nd
    have hu := hu_of hr
    refine ⟨_, PSs.nox (pss_one (ps_ret (pe_dc (own := [("name", 2)]) (g := gName 2) (tt := tYes) rfl nd (pi_keysN (pe_two (pv 0) (pv 1))) (blkOk_by (N := ["one", "other", "name"]) (sc := defScope s_sums) (by decide +kernel))
      (fun _ _ _ _ _ => pg_name (i := 2) nd rfl (Or.inl rfl)) (fun _ _ _ _ _ => pts_nil) (fun _ _ _ _ _ => pv 2)
      (fun _ _ _ _ _ => pe_op op_add (pe_dget2 hu (pv 0) (pv 2) pe_int ⟨rfl, rfl, rfl, rfl⟩) (pe_dget2 hu (pv 1) (pv 2) pe_int ⟨rfl, rfl, rfl, rfl⟩))))), ?_⟩
    intro p hp
    have nap : a ≠ p := fun e => by rw [e, hp] at ha; cases ha
    have nbp : b ≠ p := fun e => by rw [e, hp] at hb; cases hb
    refine ⟨_, rfl, a, A.map kvi, rfl, nap, .inl (by rw [upd_ne nap]; exact ha), upd_same, (by rw [List.length_map]; omega), ?_⟩
    refine ⟨_, rfl, b, B.map kvi, rfl, nbp, .inl (by rw [upd_ne nbp, upd_ne nbp]; exact hb), upd_same, (by rw [List.length_map]; omega), ?_⟩
    rw [mergeK_nil na, mergeK_kvi]
    obtain ⟨nU, mU⟩ := mrgI_keys B A na
    have lU := mrgI_len B A
    generalize mrgI A B = M at nU mU lU
    refine ⟨p, M.map kvi, rfl, upd_same, fun od => ?_⟩
    have e0 : ∀ c o, H c = some o → (upd (upd (upd (upd H p (.dK [])) p (.dK (A.map kvi))) p (.dK (M.map kvi))) p (.frz od (.dK (M.map kvi)))) c = some o := fun c o e => by
      have n := ne_of_none e hp
      rw [upd_ne n, upd_ne n, upd_ne n, upd_ne n]
      exact e
    have ep : (upd (upd (upd (upd H p (.dK [])) p (.dK (A.map kvi))) p (.dK (M.map kvi))) p (.frz od (.dK (M.map kvi)))) p = some (.frz od (.dK (M.map kvi))) := upd_same
    generalize upd (upd (upd (upd H p (.dK [])) p (.dK (A.map kvi))) p (.dK (M.map kvi))) p (.frz od (.dK (M.map kvi))) = H1 at e0 ep
    intro D hD
    refine dc_it (walk_keys (o := od) (d := p) (kvs := M.map kvi)) (fun i H' => Same H1 H' ∧ H' D = some (dI (((ks M).take i).map fun x => (x, get0 A x + get0 B x)))) ⟨same_new hD, upd_same⟩ (fun i H' _ ⟨s2, _⟩ => s2 _ _ ep) ?_ ?_
    · intro i x Ha Hb hi ⟨s2, hd⟩ ⟨e, kk, v, hk, ex⟩
      subst e ex
      rw [List.getElem?_map] at hk
      obtain ⟨q, hq, eq⟩ := Option.map_eq_some_iff.mp hk
      have ek : kk = .inr q.1 := (congrArg Prod.fst eq).symm
      subst ek
      have ha2 := s2 _ _ (e0 _ _ ha)
      have hb2 := s2 _ _ (e0 _ _ hb)
      have hqk : (ks M)[i]? = some q.1 := by
        unfold ks
        rw [List.getElem?_map, hq]
        rfl
      refine ⟨rfl, yes_of (iteT ?_)⟩
      refine ⟨_, rfl, _, rfl, a, rfl, .inl ⟨_, .inl ha2⟩, _, rfl, valV (A.map kvi) (.inr q.1), .inl ⟨A.map kvi, .inr q.1, .inl ha2, rfl, rfl⟩, _, rfl, b, rfl, .inl ⟨_, .inl hb2⟩, _, rfl, valV (B.map kvi) (.inr q.1), .inl ⟨B.map kvi, .inr q.1, .inl hb2, rfl, rfl⟩, ?_⟩
      have gv : ∀ C : NI, (valV (C.map kvi) (.inr q.1)).getD (.int 0) = .int (get0 C q.1) := fun C => by
        rw [valV_kvi]
        unfold get0
        cases get? C q.1 <;> rfl
      refine ⟨get0 A q.1, get0 B q.1, gv A, gv B, _, .inr q.1, rfl, hd, ?_, ?_, ?_⟩
      · rw [List.length_map, List.length_map, List.length_take, sizeLine_eq]
        unfold ks
        rw [List.length_map]
        omega
      · intro c o e
        rw [upd_ne (ne_of_none e hD)]
        exact s2 _ _ e
      · rw [upd_same, List.take_succ, hqk, List.map_append]
        show some (HO.dK (putK _ (.inr q.1) (.int (get0 A q.1 + get0 B q.1)))) = _
        rw [putK_new _ _ _ ?_]
        · rfl
        · rw [ks_map]
          intro hm
          have h1 : ((ks M).take (i + 1)).Nodup := List.Nodup.sublist (List.take_sublist _ _) nU
          rw [List.take_succ, hqk, List.nodup_append] at h1
          exact h1.2.2 q.1 hm q.1 (List.mem_singleton.mpr rfl) rfl
    · intro H2 ⟨s2, hd⟩
      have et : (ks M).take (M.map kvi).length = ks M := by
        rw [List.length_map]
        have : M.length = (ks M).length := by unfold ks; rw [List.length_map]
        rw [this]
        exact List.take_length
      rw [et] at hd
      have kD : H D = none := by
        cases eD : H D with
        | none => rfl
        | some o => rw [e0 _ _ eD] at hD; cases hD
      refine k D _ H2 kD (fun c o e => s2 _ _ (e0 _ _ e)) hd (by rw [ks_map]; exact nU) (fun x => by rw [ks_map]; exact mU x) (fun x => ?_) ?_
      · rw [get0_map nU (fun x => get0 A x + get0 B x)]
        by_cases hx : x ∈ ks M
        · rw [if_pos hx]
        · rw [if_neg hx, get0_none (fun h => hx ((mU x).mpr (.inl h))), get0_none (fun h => hx ((mU x).mpr (.inr h)))]
          rfl
      · rw [List.length_map]
        unfold ks
        rw [List.length_map]
        omega
end
end Lw
/-! ## SlOps -/
set_option Elab.async false
set_option linter.all false
set_option maxRecDepth 100000
set_option maxHeartbeats 4000000
/-! an own class's ==, != and the operators that it defines, whatever they answer -/
namespace Sl
open PySem PySem.Spec PyProof.Rows L2
section
variable {prog : Program} {w : World} {A : Around} {E : Value → Shared → Prop} {s : Shared} {K : PySem.W.Frag} {x C L f : Addr} {h₀ : Heap} {m : Str → Option Value} {ox : Obj} {od : Option Obj} {b tb : Value}
theorem ne_entry {Q : Fin → Shared → Prop} (X : K.In s.heap) (I : PySem.W.InstAt s.heap x ox C od) (hs : PySem.W.findIn K (.ref C) "__eq__" = some (some (.ref f))) (hf : PySem.W.isFn K (.ref f) = true) (hu : A.units < cLine)
    (h : wpAny (model prog w) A (call (.ref f) [.ref x, b]) (fun v s' => ∃ c, v = .bool c ∧ Q (.done (.ret (.bool (!c)))) s') E s) : wpAny (model prog w) A (Builtin.«object.__ne__» ⟨[.ref x, b], []⟩) Q E s := by
  unfold Builtin.«object.__ne__»
  repeat (first
    | with_reducible refine wpAny_cRoomFor hu ?_
    | (refine wpAny_bind (m := callSpecialIfBound? (.ref x) (Str.ofString "__eq__") [b])
        (PySem.W.ifBound_K X I hs hf (wpAny_mono h (fun r s' hr => by
          obtain ⟨c, rfl, hq⟩ := hr
          repeat (first | exact hq | exact wpAny_pure hq | exact wpAny_truthy_bool hq | (refine wpAny_bind (m := truthy (.bool _)) (wpAny_truthy_bool ?_)) | wp_step)) fun _ _ e => e)))
    | wp_step)
theorem ifBound_B {M : Model} {name : Str} {id : String} {args : List Value} {Q : Option Value → Shared → Prop} (X : K.In s.heap) (I : PySem.W.InstAt s.heap x ox C od) (hs : PySem.W.findIn K (.ref C) name = some (some (.builtin id))) (hb : bindSpecial (.builtin id) (.ref x) = pure (.builtin id, [.ref x]))
    (h : wpAny M A (call (.builtin id) (.ref x :: args)) (fun v => Q (some v)) E s) : wpAny M A (callSpecialIfBound? (.ref x) name args) Q E s := by
  simp only [callSpecialIfBound?, bindSpecialIfBound?]
  refine wpAny_holding (wpAny_bind (wpAny_bind (wpAny_bind (I.type.here ((PySem.W.looks_findIn X hs).here ?_)))))
  refine wpAny_bind (wpAny_askSetting (wpAny_ite ?_))
  have fin : wpAny M A (call (.builtin id) ([.ref x] ++ args) >>= fun v => pure (some v)) Q E s := wpAny_bind (wpAny_mono h (fun v s' h' => wpAny_pure h') fun _ _ h' => h')
  rw [hb]
  split
  · exact wpAny_bind (wpAny_pure (wpAny_pure (by exact fin)))
  · exact wpAny_tryCatch (wpAny_bind (wpAny_pure (wpAny_pure (by exact fin))))
theorem ne_K {Q : Value → Shared → Prop} (hu : A.units + 1 < cLine) (X : K.In s.heap) (I : PySem.W.InstAt s.heap x ox C od) (hb : PySem.W.Looks (model prog w) s.heap (typeOf b) tb) (hn : PySem.W.notFirst K C tb = true)
    (hs : PySem.W.findIn K (.ref C) "__eq__" = some (some (.ref f))) (hf : PySem.W.isFn K (.ref f) = true) (hne : PySem.W.findIn K (.ref C) "__ne__" = some (some (.builtin "object.__ne__"))) (ho : PySem.W.subIn K (.ref C) (.type "object") = some true)
    (h : wpAny (model prog w) A.in1 (call (.ref f) [.ref x, b]) (fun v s' => ∃ c, v = .bool c ∧ Q (.bool (!c)) s') E s) : wpAny (model prog w) A (richCompare .NotEq (.ref x) b) Q E s := by
  have one : wpAny (model prog w) A (tryCompare (.ref x) "__ne__" b) (fun r s' => ∃ v, r = some v ∧ Q v s') E s := by
    unfold tryCompare
    refine wpAny_bind (ifBound_B X I hne (F.cmp_object.ne.bind (.ref x)) (wpAny_call (codeAny_call_builtin F.cmp_object.ne.plain F.cmpEntry_ne
      (PySem.W.check_slot F.cmpKind_ne F.cmpSplit_ne (I.type.andThen (PySem.W.looks_subIn X ho)) (F.cmpArgs_ne _ _) (ne_entry (A := A.in1) X I hs hf hu (wpAny_mono h (fun v s' hv => ?_) fun _ _ e => e))))))
    obtain ⟨c, rfl, hq⟩ := hv
    first | exact ⟨c, rfl, wpAny_pure ⟨_, rfl, hq⟩⟩ | exact ⟨c, rfl, _, rfl, hq⟩ | exact ⟨c, rfl, wpAny_pure (wpAny_pure ⟨_, rfl, hq⟩)⟩
  unfold richCompare
  simp only [oneThing_ref]
  refine wpAny_holding (wpAny_bind (wpAny_cRoomFor (Nat.lt_of_succ_lt hu) ?_))
  rw [cmpInfo_NotEq]
  dsimp only
  refine wpAny_bind (I.type.here (wpAny_bind (hb.here ?_)))
  split
  · rename_i q
    have e : PySem.W.subIn K tb (.ref C) = some false := by
      rcases Bool.or_eq_true_iff.mp hn with e | e
      · rw [beq_iff_eq.mp e] at q; simp at q
      · exact beq_iff_eq.mp e
    refine wpAny_bind ((PySem.W.looks_subIn X e).here ?_)
    simp only [Bool.false_eq_true, if_false]
    refine wpAny_bind (wpAny_mono one (fun r s' z => ?_) fun _ _ e => e)
    obtain ⟨v, rfl, hq⟩ := z
    exact wpAny_pure hq
  · refine wpAny_bind (wpAny_pure ?_)
    simp only [Bool.false_eq_true, if_false]
    refine wpAny_bind (wpAny_mono one (fun r s' z => ?_) fun _ _ e => e)
    obtain ⟨v, rfl, hq⟩ := z
    exact wpAny_pure hq
end
/-! ### the rules -/
/-- the type of the right one: the class C itself, or one that C is not of -/
def rightT (K : PySem.W.Frag) (C : Addr) (H : Hp) (y : V) : Prop := (∃ (a dx : Addr) (fs : List (Str × V)), y = .ref a ∧ H a = some (.ins C dx fs)) ∨ ∃ t, TyX K H y t ∧ PySem.W.notFirst K C t = true
/-- x == y, x != y by the own == of the left one, which lets no exception out -/
def rOwnEq (K : PySem.W.Frag) (C : Addr) (sp : Sp) : R2 := fun x y H Q => ∃ (a dx : Addr) (fs : List (Str × V)), x = .ref a ∧ H a = some (.ins C dx fs) ∧ rightT K C H y ∧ sp [.ref a, y] H (fun v H' => ∃ c, v = .bl c ∧ Q (.bl c) H') (fun _ _ _ => False)
def rOwnNe (K : PySem.W.Frag) (C : Addr) (sp : Sp) : R2 := fun x y H Q => ∃ (a dx : Addr) (fs : List (Str × V)), x = .ref a ∧ H a = some (.ins C dx fs) ∧ rightT K C H y ∧ sp [.ref a, y] H (fun v H' => ∃ c, v = .bl c ∧ Q (.bl (!c)) H') (fun _ _ _ => False)
/-- an operator of two instances of C by the own def of the left one -/
def rOwnOp (C : Addr) (sp : Sp) : R2 := fun x y H Q => ∃ (a dx : Addr) (fs : List (Str × V)) (b dy : Addr) (gs : List (Str × V)), x = .ref a ∧ H a = some (.ins C dx fs) ∧ y = .ref b ∧ H b = some (.ins C dy gs) ∧ sp [.ref a, .ref b] H Q (fun _ _ _ => False)
section
variable {X : Cx} {CX : CXT} {k : Nat} {C f : Addr} {fd : FuncData} {ps : List Str} {sp : Sp}
theorem right_looks {pins : List (Addr × Obj)} {σ : L2.St} {H : Hp} {s : Shared} {y : V} {u : Value} (I : Inv X pins σ H s) (ry : RelV y u) (h : rightT X.K C H y) : ∃ tb, PySem.W.Looks (model X.prog X.w) s.heap (typeOf u) tb ∧ PySem.W.notFirst X.K C tb = true := by
  rcases h with ⟨a, dx, fs, rfl, ha⟩ | ⟨t, ht, hn⟩
  · cases ry
    obtain ⟨mA, J, _⟩ := ins_get I.hok ha
    obtain ⟨od, J, _⟩ := J.look
    exact ⟨_, J.type, by simp [PySem.W.notFirst]⟩
  · obtain ⟨P, KX, hp, _⟩ := kit_of I ry ht
    exact ⟨t, KX.ty _ _ I.kIn hp, hn⟩
theorem call_at {A : Around} {pins : List (Addr × Obj)} {σ : L2.St} {H : Hp} {s : Shared} {x y : V} {u v : Value} {Q : VK} (F : FnOk X.prog X.w X.K X.mg X.base CX k f fd ps sp) (hr : Room k A) (hfr : A.frames = X.A.frames) (hb : Binds X.K fd ps []) (hx : Passes CX X (fun _ _ _ => False)) (I : Inv X pins σ H s)
    (rx : RelV x v) (ry : RelV y u) (h : sp [x, y] H Q (fun _ _ _ => False)) : wpAny (model X.prog X.w) A (call (.ref f) [v, u]) (fun r s' => ∃ z H', Inv X pins σ H' s' ∧ RelV z r ∧ Q z H') X.xe s := by
  have e0 : Env0 X.prog X.w X.K X.mg X.base A X.stack s H := by
    have e := I.env0
    exact ⟨by rw [hfr]; exact e.frames, e.mod, e.bs, e.bsz, e.funs, e.frf, e.hok, e.bare⟩
  have hl := F.len _ _ _ _ h
  have r2 : Vals [x, y] [v, u] := .cons rx (.cons ry .nil)
  refine wpAny_call (codeAny_mono (F.run A X.stack s H ⟨[v, u], []⟩ [v, u] [x, y] _ _ hr e0 (by
    have := hb s [v, u] I.kIn (by simpa using hl)
    simpa using this) r2 h) fun r s' hq => ?_)
  cases r with
  | error e => exact hx pins σ H s e s' I hq
  | ok fl =>
    cases fl with
    | ret w =>
      obtain ⟨z, H', I', rz, q⟩ := I.after hq
      exact ⟨z, H', I', rz, q⟩
    | next => exact False.elim hq
    | brk => exact False.elim hq
    | cont => exact False.elim hq
theorem op_ownEq (F : FnOk X.prog X.w X.K X.mg X.base CX k f fd ps sp) (hs : PySem.W.findIn X.K (.ref C) "__eq__" = some (some (.ref f))) (hf : PySem.W.isFn X.K (.ref f) = true) (hb : Binds X.K fd ps []) (hx : Passes CX X (fun _ _ _ => False)) (hr : Room k X.A) :
    OpR X (compareOp .Eq) (rOwnEq X.K C sp) := by
  intro pins s σ H x y v u Q I rx ry h
  obtain ⟨a, dx, fs, rfl, ha, hy, q⟩ := h
  cases (show v = Value.ref a from rx)
  obtain ⟨mA, J, _⟩ := ins_get I.hok ha
  obtain ⟨od, J, _⟩ := J.look
  obtain ⟨tb, hT, hn⟩ := right_looks I ry hy
  obtain ⟨m, hF⟩ := I.fr
  show wpAny (model X.prog X.w) X.A (richCompare .Eq (.ref a) u) (EP X pins σ Q) X.xe s
  refine PySem.W.cmp_K (op := .Eq) (tb := tb) hr.units0 hF I.ok.mod.kin J hT hn hs hf ?_
  refine wpAny_mono (call_at F hr rfl hb hx I (x := .ref a) rfl ry q) (fun r s' z => ?_) fun _ _ x => x
  obtain ⟨z, H', I', rz, c, ez, q'⟩ := z
  subst ez
  cases rz
  exact ⟨.bl c, H', I', rfl, q'⟩
theorem op_ownNe (F : FnOk X.prog X.w X.K X.mg X.base CX k f fd ps sp) (hs : PySem.W.findIn X.K (.ref C) "__eq__" = some (some (.ref f))) (hf : PySem.W.isFn X.K (.ref f) = true) (hne : PySem.W.findIn X.K (.ref C) "__ne__" = some (some (.builtin "object.__ne__")))
    (ho : PySem.W.subIn X.K (.ref C) (.type "object") = some true) (hb : Binds X.K fd ps []) (hx : Passes CX X (fun _ _ _ => False)) (hr : Room (k + 1) X.A) : OpR X (compareOp .NotEq) (rOwnNe X.K C sp) := by
  intro pins s σ H x y v u Q I rx ry h
  obtain ⟨a, dx, fs, rfl, ha, hy, q⟩ := h
  cases (show v = Value.ref a from rx)
  obtain ⟨mA, J, _⟩ := ins_get I.hok ha
  obtain ⟨od, J, _⟩ := J.look
  obtain ⟨tb, hT, hn⟩ := right_looks I ry hy
  show wpAny (model X.prog X.w) X.A (richCompare .NotEq (.ref a) u) (EP X pins σ Q) X.xe s
  refine ne_K (tb := tb) (by have := hr.units; omega) I.kIn J hT hn hs hf hne ho ?_
  refine wpAny_mono (call_at F hr.in1 rfl hb hx I (x := .ref a) rfl ry q) (fun r s' z => ?_) fun _ _ x => x
  obtain ⟨z, H', I', rz, c, ez, q'⟩ := z
  subst ez
  cases rz
  exact ⟨c, rfl, .bl (!c), H', I', rfl, q'⟩
theorem op_ownOp {op : Operator} (F : FnOk X.prog X.w X.K X.mg X.base CX k f fd ps sp) (hs : PySem.W.findIn X.K (.ref C) (PySem.dunder op.info.2) = some (some (.ref f))) (hf : PySem.W.isFn X.K (.ref f) = true) (hc : PySem.W.selfFirst X.K C = true) (hb : Binds X.K fd ps [])
    (hx : Passes CX X (fun _ _ _ => False)) (hr : Room k X.A) : OpR X (binaryOp op) (rOwnOp C sp) := by
  intro pins s σ H x y v u Q I rx ry h
  obtain ⟨a, dx, fs, b, dy, gs, rfl, ha, rfl, hb', q⟩ := h
  cases (show v = Value.ref a from rx)
  cases (show u = Value.ref b from ry)
  obtain ⟨mA, J, _⟩ := ins_get I.hok ha
  obtain ⟨od, J, _⟩ := J.look
  obtain ⟨mB, J', _⟩ := ins_get I.hok hb'
  obtain ⟨od', J', _⟩ := J'.look
  obtain ⟨m, hF⟩ := I.fr
  refine PySem.W.binop_K hF I.ok.mod.kin J J'.type hc hs hf ?_
  refine wpAny_mono (call_at F hr rfl hb hx I (x := .ref a) (y := .ref b) rfl rfl q) (fun r s' z => ?_) fun _ _ x => x
  obtain ⟨z, H', I', rz, q'⟩ := z
  have fin : EP X pins σ Q r s' := ⟨z, H', I', rz, q'⟩
  cases z with
  | non => cases (show r = Value.none from rz); exact fin
  | bl c => cases (show r = Value.bool c from rz); exact fin
  | int i => obtain ⟨t, rfl⟩ := (show ∃ t, r = Value.int i t from rz); exact fin
  | str i => obtain ⟨t, rfl⟩ := (show ∃ t, r = Value.str i t from rz); exact fin
  | byt i => obtain ⟨t, rfl⟩ := (show ∃ t, r = Value.bytes i t from rz); exact fin
  | flt i => obtain ⟨t, rfl⟩ := (show ∃ t, r = Value.float i t from rz); exact fin
  | ref i => cases (show r = Value.ref i from rz); exact fin
  | ty i => cases (show r = Value.type i from rz); exact fin
end
end Sl
/-! ## TabA -/
set_option Elab.async false
set_option linter.all false
set_option maxRecDepth 100000
set_option maxHeartbeats 8000000
namespace Lw
open PySem PySem.Spec PyProof.Rows L2 Sl
/-! ### tables -/
structure TabC (K : PySem.W.Frag) (C : Addr) : Prop where
  cl : Cls K C
  nN : NoAttr K C "_numbers"
  nW : NoAttr K C "_worths"
  ca : PySem.W.findIn K (.ref C) "__class__" = some (some (.builtin "object.__class__"))
  sg : PySem.W.specialIn K (.builtin "object.__class__") "__get__" = some (some (.builtin "getset_descriptor.__get__"))
  tk : PySem.W.takesIn K (.builtin "object.__class__") = some true
  ob : PySem.W.mroIn K C (.type "object") = some true
  kD : PySem.W.kitOne K (.type "dict") (.ref C) = some false
  kN : PySem.W.kitOne K (.type "NoneType") (.ref C) = some false
def TabAt (H : Hp) (C t : Addr) (A B : NI) : Prop := ∃ dx d1 d2, H t = some (.ins C dx [("_numbers", .ref d1), ("_worths", .ref d2)]) ∧ H d1 = some (dI A) ∧ H d2 = some (dI B)
/-- the same, its dicts told -/
def TabX (H : Hp) (C t : Addr) (A B : NI) (d1 d2 : Addr) : Prop := ∃ dx, H t = some (.ins C dx [("_numbers", .ref d1), ("_worths", .ref d2)]) ∧ H d1 = some (dI A) ∧ H d2 = some (dI B)
theorem TabX.at_ {H : Hp} {C t : Addr} {A B : NI} {d1 d2 : Addr} (h : TabX H C t A B d1 d2) : TabAt H C t A B := let ⟨dx, a, b, c⟩ := h; ⟨dx, d1, d2, a, b, c⟩
theorem TabX.keep {H H' : Hp} {C t a : Addr} {A B : NI} {d1 d2 : Addr} (h : TabX H C t A B d1 d2) (k : Keep a H H') (n0 : t ≠ a) (n1 : d1 ≠ a) (n2 : d2 ≠ a) : TabX H' C t A B d1 d2 := let ⟨dx, x, y, z⟩ := h; ⟨dx, k _ _ n0 x, k _ _ n1 y, k _ _ n2 z⟩
theorem TabX.same {H H' : Hp} {C t : Addr} {A B : NI} {d1 d2 : Addr} (h : TabX H C t A B d1 d2) (k : Same H H') : TabX H' C t A B d1 d2 := let ⟨dx, x, y, z⟩ := h; ⟨dx, k _ _ x, k _ _ y, k _ _ z⟩
theorem TabAt.same {H H' : Hp} {C t : Addr} {A B : NI} (h : TabAt H C t A B) (k : Same H H') : TabAt H' C t A B := let ⟨dx, d1, d2, a, b, c⟩ := h; ⟨dx, d1, d2, k _ _ a, k _ _ b, k _ _ c⟩
section
variable {P : Program} {w : World} {K : PySem.W.Frag} {mg : Str → Option Value} {base : Heap} {f : Addr} {fd : FuncData} {C : Addr}
def sp_tinit (K : PySem.W.Frag) (C : Addr) : Sp := fun vs H Q _ => ∃ (t dx a b : Addr) (A B : NI), vs = [.ref t, .ref a, .ref b] ∧ H t = some (.ins C dx []) ∧ PArg K H a A ∧ okNI A false ∧ PArg K H b B ∧ okNI B true ∧
  ∀ (H' : Hp) (d1 d2 : Addr), Keep t H H' → H d1 = none → H d2 = none → TabX H' C t (nz A) (nz B) d1 d2 → Q .non H'
theorem ok_tinit (F : FunD K "__init__" "Table.__init__" (defArgs s_Table___init__) (defBody s_Table___init__) (defScope s_Table___init__) dvs [] f fd) (T : TabC K C) (N : Cal P w K mg base 3 "named_integers" [] (sp_named K)) :
    FnOk P w K mg base CX0 4 f fd ["self", "rows", "counters"] (sp_tinit K C) := by
  refine F.ok sc_Table___init__ (fun vs H Q E h => ?_) (fun cdv A outer s H vs Q E hr h => ?_)
  · obtain ⟨t, dx, a, b, A, B, rfl, _⟩ := h
    rfl
  · obtain ⟨t, dx, a, b, A, B, rfl, ht, ha, oA, hb, oB, k⟩ := h
    refine ⟨_, PSs.nox (pss_cons (ps_fld (pv 0) (pe_cal N hr (pa_cons (pv 1) (pa_cons pe_bl pa_nil))) rfl) (pss_one (ps_fld (pv 0) (pe_cal N hr (pa_cons (pv 2) (pa_cons pe_bl pa_nil))) rfl))), ?_⟩
    refine ⟨_, rfl, a, false, A, rfl, ha, oA, fun d1 H1 hd1 s1 e1 => ?_⟩
    refine ⟨_, rfl, t, C, dx, [], rfl, s1 _ _ ht, T.cl, T.nN, by decide, ?_⟩
    have nt1 : d1 ≠ t := fun e => by rw [e, ht] at hd1; cases hd1
    have kp1 : Keep t H (upd H1 t (.ins C dx (putF "_numbers" (.ref d1) []))) := fun c o n e => by
      rw [upd_ne n]
      exact s1 _ _ e
    refine ⟨_, rfl, b, true, B, rfl, ?_, oB, fun d2 H2 hd2 s2 e2 => ?_⟩
    · refine hb.imp fun o ho e => kp1 _ _ (fun e2 => ?_) e
      rw [e2, ht] at e
      rcases ho with h | h | h <;> subst h <;> cases e
    · have nt2 : d2 ≠ t := fun e => by rw [e, upd_same] at hd2; cases hd2
      refine ⟨_, rfl, t, C, dx, _, rfl, s2 _ _ upd_same, T.cl, T.nW, (by show 1 < 1000; decide), ?_⟩
      have f2 : H d2 = none := by
        cases e : H d2 with
        | none => rfl
        | some o => rw [kp1 _ _ nt2 e] at hd2; cases hd2
      refine k _ d1 d2 (fun c o n e => ?_) hd1 f2 ⟨dx, upd_same, ?_, ?_⟩
      · rw [upd_ne n]
        exact s2 _ _ (kp1 _ _ n e)
      · rw [upd_ne nt1]
        refine s2 _ _ ?_
        rw [upd_ne nt1]
        exact e1
      · rw [upd_ne nt2]
        exact e2
end
end Lw
/-! ## SlExc -/
set_option Elab.async false
set_option linter.all false
set_option maxRecDepth 100000
set_option maxHeartbeats 4000000
namespace Sl
open PySem PySem.Spec PyProof.Rows L2
section
variable {X : Cx} {CX : CXT} {k : Nat} {f D fI : Addr} {fd : FuncData} {ps : List Str} {sp : Sp} {ds : List Value} {dvs : List V} {E : XK} {x m : Str} {mc : Value} {e : Expr} {es : List Expr} {p p1 p2 pos : Pos} {t : TA}
/-- D.m(e, ..): a def read off an own class -/
theorem pe_clsfn {pl : Sem Bool} (hg : Gl X x) (hm : X.mg x = some (.ref D)) (r : ClX.CRead X.K D mc) (kv : PySem.W.findCls X.K (.ref D) mc m = some (.val (.ref f))) (hk : PySem.W.keepIn X.K (.ref f) = true)
    (F : FnOk X.prog X.w X.K X.mg X.base CX k f fd ps sp) (hr : Room k X.A) (hb : Binds X.K fd ps ds) (hd : Vals dvs ds) (hx : Passes CX X E) (ha : PA X (e :: es) t)
    (hc : eval (.Call (.Attribute (.Name x p1) m p2) (e :: es) [] pos) X.env = (do
      let ov ← eval (.Name x p1) X.env
      standAt p2.atName
      let (f, first) ← holding [ov] (getMethod ov m pl)
      callWith pos f first (backTo pos (starEach (e :: es) X.env)) (backToKw pos (keywordEach [] X.env))) := by rfl)
    (hdb : (x == ("__debug__" : Str)) = false := by decide)
    (he : starEach (e :: es) X.env = (false, eval e X.env) :: starEach es X.env := by rfl) (hpl : (backTo pos (starEach es X.env)).any (·.1) = false := by rfl) :
    PE X (.Call (.Attribute (.Name x p1) m p2) (e :: es) [] pos) (tCall sp dvs E t) := by
  refine ⟨fun pins s σ H Q I h => ?_⟩
  refine PySem.W.methodCall_KW (ld_glob I hg hm ?_ hdb) hc
  refine PySem.W.method_cls I.kIn r.ga (ClX.getcval_ok (v := .ref f) I r ⟨kv, rfl⟩ fun s1 I1 => ?_)
  refine PySem.W.callWith_K (h₀ := X.base) I1.ok.mod.kin hk (thn (ha.run pos pins s1 σ H _ I1 h) fun us s2 ⟨vs, H2, I2, r2, q⟩ => ⟨I2.kIn, ?_⟩) he hpl
  exact run_fn F hr hb hd hx I2 r2 q
/-- C(e, ..), an own exception, as a value -/
def tExc (C : Addr) (sp : Sp) (dvs : List V) (ta : TA) : TE := fun σ H Q => ta σ H fun vs H1 => vs.length ≤ 1000 ∧ ∀ a, H1 a = none → sp (.ref a :: (vs ++ dvs)) (upd H1 a (exo a C none)) (fun v H2 => v = .non ∧ Q (.ref a) H2) (fun _ _ _ => False)
theorem run_exc {C : Addr} {pins : List (Addr × Obj)} {σ : L2.St} {H1 : Hp} {s1 : Shared} {Q : VK} {us : List Value} {vs : List V} (T : OexC X.K C) (iC : PySem.W.findIn X.K (.ref C) "__init__" = some (some (.ref fI))) (tI : PySem.W.typeIn X.K (.ref fI) = some (.type "function"))
    (F1 : FnOk X.prog X.w X.K X.mg X.base CX k fI fd ps sp) (hr : Room (k + 1) X.A) (hb : Binds X.K fd ps ds) (hd : Vals dvs ds) (hx : Passes CX X (fun _ _ _ => False)) (I1 : Inv X pins σ H1 s1) (r1 : Vals vs us) (hz : vs.length ≤ 1000)
    (q1 : ∀ a, H1 a = none → sp (.ref a :: (vs ++ dvs)) (upd H1 a (exo a C none)) (fun v H2 => v = .non ∧ Q (.ref a) H2) (fun _ _ _ => False)) :
    wpAny (model X.prog X.w) X.A (call (.ref C) us) (EP X pins σ Q) X.xe s1 := by
  obtain ⟨nm, q, N, bs, bm, sn, sub, ab, col, dd, k0, k1, k2, k3, k5, hC, hbm⟩ := T.cls
  obtain ⟨hp, g, dr, tk, os⟩ := s1
  have hsz : hp.objs.size ≤ hp.objs.size + 1 := Nat.le_succ _
  have hn : H1 (hp.objs.size + 1) = none := I1.hok.fresh hsz
  have hq := q1 (hp.objs.size + 1) hn
  have kk : ∀ b o, hp.get? b = some o → ((hp.push (PySem.W.kdv_tup us)).push (PySem.HandSPX.excO C hp.objs.size)).get? b = some o := fun b o e => Heap.get?_push_of_some _ (Heap.get?_push_of_some _ e)
  have hget : ((hp.push (PySem.W.kdv_tup us)).push (PySem.HandSPX.excO C hp.objs.size)).get? (hp.objs.size + 1) = some (PySem.HandSPX.excO C hp.objs.size) := by heap_get
  have I2 : Inv X pins σ (upd H1 (hp.objs.size + 1) (exo (hp.objs.size + 1) C none)) ⟨(hp.push (PySem.W.kdv_tup us)).push (PySem.HandSPX.excO C hp.objs.size), g, dr, tk, os⟩ :=
    I1.laid (t' := tk) (a := hp.objs.size + 1) (o := exo (hp.objs.size + 1) C none) kk hsz (exo_ok hget)
  have r2 : Vals (V.ref (hp.objs.size + 1) :: (vs ++ dvs)) (Value.ref (hp.objs.size + 1) :: (us ++ ds)) := .cons rfl (r1.append hd)
  have hl : (Value.ref (hp.objs.size + 1) :: us ++ ds).length = ps.length := by
    have e := r2.length
    rw [F1.len _ _ _ _ hq] at e
    exact e.symm
  have hus : us.length ≤ sizeLine := by
    rw [← Paired.length r1, sizeLine_eq]
    omega
  refine wpAny_call (PySem.HandSPX.call_own F.excBase_ValueError (fun Y => PySem.HandSPX.refsVE_contains Y bm hbm) (I1.kIn _ _ hC) (PySem.W.looks_findIn I1.kIn iC) (fun self => PySem.W.bind_fn I1.kIn self tI) hus
    (codeAny_mono (F1.run _ X.stack _ _ ⟨Value.ref (hp.objs.size + 1) :: us, []⟩ (Value.ref (hp.objs.size + 1) :: (us ++ ds)) _ _ (fun _ _ _ => False) (hr.make C us []) (I2.env0.make C us []) (hb _ (Value.ref (hp.objs.size + 1) :: us) I2.kIn hl) r2 hq) fun r s' hq' => ?_))
  cases r with
  | error er => exact hx pins σ _ _ er s' I2 hq'
  | ok fl =>
    cases fl with
    | ret u =>
      obtain ⟨v, H3, I3, rv, ev, q3⟩ := I2.after hq'
      subst ev
      exact ⟨rv, ⟨V.ref (hp.objs.size + 1), H3, I3, rfl, q3⟩⟩
    | next => exact False.elim hq'
    | brk => exact False.elim hq'
    | cont => exact False.elim hq'
theorem pe_exc {C : Addr} (T : OexC X.K C) (iC : PySem.W.findIn X.K (.ref C) "__init__" = some (some (.ref fI))) (tI : PySem.W.typeIn X.K (.ref fI) = some (.type "function"))
    (F1 : FnOk X.prog X.w X.K X.mg X.base CX k fI fd ps sp) (hr : Room (k + 1) X.A) (hb : Binds X.K fd ps ds) (hd : Vals dvs ds) (hx : Passes CX X (fun _ _ _ => False)) (hg : Gl X x) (hm : X.mg x = some (.ref C)) (ha : PA X (e :: es) t)
    (hdb : (x == ("__debug__" : Str)) = false := by decide) (he : starEach (e :: es) X.env = (false, eval e X.env) :: starEach es X.env := by rfl) (hpl : (backTo pos (starEach es X.env)).any (·.1) = false := by rfl) :
    PE X (.Call (.Name x p) (e :: es) [] pos) (tExc C sp dvs t) := by
  refine ⟨fun pins s σ H Q I h => ?_⟩
  refine wpAny_Call_Name_kw (ld_glob I hg hm ?_ hdb)
  refine PySem.W.callWith_K (h₀ := X.base) I.ok.mod.kin T.kC (thn (ha.run pos pins s σ H _ I h) fun us s1 ⟨vs, H1, I1, r1, hz, q1⟩ => ⟨I1.kIn, ?_⟩) he hpl
  exact run_exc T iC tI F1 hr hb hd hx I1 r1 hz q1
theorem pe_exc0 {C : Addr} (T : OexC X.K C) (iC : PySem.W.findIn X.K (.ref C) "__init__" = some (some (.ref fI))) (tI : PySem.W.typeIn X.K (.ref fI) = some (.type "function"))
    (F1 : FnOk X.prog X.w X.K X.mg X.base CX k fI fd ps sp) (hr : Room (k + 1) X.A) (hb : Binds X.K fd ps ds) (hd : Vals dvs ds) (hx : Passes CX X (fun _ _ _ => False)) (hg : Gl X x) (hm : X.mg x = some (.ref C))
    (hdb : (x == ("__debug__" : Str)) = false := by decide) : PE X (.Call (.Name x p) [] [] pos) (tExc C sp dvs tNil) := by
  refine ⟨fun pins s σ H Q I h => ?_⟩
  refine wpAny_Call_Name_kw (ld_glob I hg hm ?_ hdb)
  obtain ⟨hz, q1⟩ := h
  exact PySem.W.callWith_K0 I.kIn T.kC (run_exc (us := []) T iC tI F1 hr hb hd hx I .nil hz q1)
end
/-! ### an own exception that is held: its fields, its class -/
/-- what the class at D must say of reading an instance's attributes -/
structure ExR (K : PySem.W.Frag) (D : Addr) : Prop where
  ga : PySem.W.findIn K (.ref D) "__getattribute__" = some (some (.builtin "BaseException.__getattribute__"))
  gg : PySem.W.findIn K (.ref D) "__getattr__" = some none
  sb : PySem.W.subIn K (.ref D) (.type "BaseException") = some true
  hd : PySem.W.hasDictIn K D = true
  cl : PySem.W.findIn K (.ref D) "__class__" = some (some (.builtin "object.__class__"))
  gt : PySem.W.specialIn K (.builtin "object.__class__") "__get__" = some (some (.builtin "getset_descriptor.__get__"))
  tk : PySem.W.takesIn K (.builtin "object.__class__") = some true
  ob : PySem.W.mroIn K D (.type "object") = some true
def tExF (K : PySem.W.Frag) (f : Str) (te : TE) : TE := fun σ H Q => te σ H fun x H1 => ∃ (a D dx : Addr) (fs : List (Str × V)) (v : V), x = .ref a ∧ H1 a = some (exo a D (some dx)) ∧ H1 dx = some (exd dx fs) ∧ ExR K D ∧ PySem.W.findIn K (.ref D) f = some none ∧ fs.lookup f = some v ∧ Q v H1
section
variable {X : Cx} {f : Str} {e : Expr} {te : TE} {pos : Pos}
theorem inst_of {pins : List (Addr × Obj)} {σ : L2.St} {H : Hp} {s : Shared} {a D dx : Addr} {fs : List (Str × V)} (I : Inv X pins σ H s) (ha : H a = some (exo a D (some dx))) (hx : H dx = some (exd dx fs)) :
    ∃ (ox od : Obj) (mA : Str → Option Value), PySem.W.InstAt s.heap a ox D (some od) ∧ (∀ g, PySem.W.lookIn g od = some (mA g)) ∧ ∀ g, RelO (fs.lookup g) (mA g) := by
  obtain ⟨t1, ho⟩ := exo_at I.hok ha
  obtain ⟨mA, hn, hr⟩ := exd_at I.hok hx
  obtain ⟨od, hod, hl⟩ := lookIn_ns hn
  exact ⟨_, od, mA, ⟨ho, rfl, rfl, hod⟩, hl, hr⟩
theorem pe_exf (he : PE X e te) (hb : attributeBase e f X.env (eval e X.env) = eval e X.env := by rfl) : PE X (.Attribute e f pos) (tExF X.K f te) := by
  refine ⟨fun pins s σ H Q I h => attr_of hb (thn (he.run pins s σ H _ I h) fun u s1 hh => ?_)⟩
  obtain ⟨x, H1, I1, rx, a, D, dx, fs, v, rfl, ha, hx, T, nf, lf, q⟩ := hh
  cases rx
  obtain ⟨ox, od, mA, J, hl, hr⟩ := inst_of I1 ha hx
  obtain ⟨u, hu, ru⟩ := RelO.some_of (v := v) (o := mA f) (by rw [← lf]; exact hr f)
  exact HandSPX.exc_get I1.kIn J T.ga T.gg T.sb (PySem.W.findObj_own T.hd nf rfl (by rw [hl, hu])) (handed_of ru) ⟨v, H1, I1.tok _, ru, q⟩
end
/-- e.__class__ of such an instance -/
theorem class_of {prog : Program} {w : World} {A : Around} {E : Value → Shared → Prop} {K : PySem.W.Frag} {x D : Addr} {ox : Obj} {od : Option Obj} {hp : Heap} {gs : Array GenState} {dr : Drawn} {t : Nat} {os : OsState} {Q : Option Value → Shared → Prop} (T : ExR K D) (X : K.In hp) (I : PySem.W.InstAt hp x ox D od)
    (q : Q (some (.ref D)) ⟨hp, gs, dr, t + 1, os⟩) : wpAny (model prog w) A (getAttr? (.ref x) "__class__") Q E ⟨hp, gs, dr, t, os⟩ := by
  have found : PySem.W.findObj K D od "__class__" = some (.bind (.builtin "getset_descriptor.__get__") (.builtin "object.__class__")) := by
    obtain ⟨cd, hc, _⟩ := PySem.W.any_some T.hd
    unfold PySem.W.findObj
    rw [hc, Option.bind_some, T.cl, Option.bind_some]
    simp [T.gt, T.tk]
  have lT := I.type (M := model prog w)
  have lG := PySem.W.looks_findIn (M := model prog w) X T.ga
  have lF := PySem.W.looks_find (M := model prog w) X I found
  have isB : PySem.W.Looks (model prog w) hp (isInstance (.ref x) (.type "BaseException")) true := lT.andThen (PySem.W.looks_subIn X T.sb)
  have other : (Value.builtin "BaseException.__getattribute__" == Value.builtin "object.__getattribute__") = false := by decide +kernel
  -- the look for the hook, then BaseException.__getattribute__ itself
  have inner : wpAny (model prog w) A.in1 (Builtin.«object.__getattribute__» ⟨[.ref x, .str "__class__" t], []⟩) (fun fin s' => fin = .done (.ret (.ref D)) ∧ s' = ⟨hp, gs, dr, t + 1, os⟩) (fun _ _ => False) ⟨hp, gs, dr, t + 1, os⟩ := by
    unfold Builtin.«object.__getattribute__»
    refine wpAny_bind (wpAny_of_eq (a := ((Value.ref x : Value), [Value.str "__class__" t])) (by first | rfl | (simp only [slotArgs]; rfl)) (wpAny_bind (wpAny_pure (wpAny_bind (lT.at (wpAny_bind (lF.at ?_)))))))
    show wpAny _ _ (holding [Value.builtin "object.__class__"] (call (.builtin "getset_descriptor.__get__") [.builtin "object.__class__", .ref x, .ref D]) >>= ret) _ _ _
    refine wpAny_bind (wpAny_holding (wpAny_call (PySem.W.class_get (s := ⟨hp, gs, dr, t + 1, os⟩) (ox := ox) (od := od) X I T.ob ?_)))
    exact wpAny_pure ⟨rfl, rfl⟩
  unfold getAttr? getAttrBy? getAttrBy
  refine wpAny_bind (wpAny_mkText (wpAny_bind (wpAny_attempt (wpAny_holding (wpAny_bind (lT.at (wpAny_bind (lG.at ?_))))))))
  have c1 : (onTheHeap (Value.ref D) && Value.builtin "BaseException.__getattribute__" == Value.builtin "object.__getattribute__") = false := by
    rw [other]
    rfl
  show wpAny _ _ (if (onTheHeap (Value.ref D) && Value.builtin "BaseException.__getattribute__" == Value.builtin "object.__getattribute__") = true then _ else _) _ _ _
  rw [c1, if_neg Bool.false_ne_true]
  unfold getAttrByItsOwn hookBefore
  refine wpAny_bind ?_
  rw [if_pos (show onTheHeap (Value.ref D) = true from rfl)]
  refine (PySem.W.looks_findIn (M := model prog w) X T.gg).at (wpAny_bind (wpAny_attempt (wpAny_holding ?_)))
  unfold callGetattribute
  rw [show (false && onTheHeap (Value.builtin "BaseException.__getattribute__")) = false from rfl, if_neg Bool.false_ne_true]
  unfold boundAndCalled
  rw [PySem.F.excAttr_ValueError.ga.bind (.ref x)]
  refine wpAny_bind (wpAny_pure ?_)
  show wpAny _ _ (call (.builtin "BaseException.__getattribute__") [.ref x, .str "__class__" t]) _ _ _
  refine wpAny_call (codeAny_call_builtin PySem.F.excAttr_ValueError.ga.plain PySem.F.entry_bexc_ga ?_)
  refine @PySem.W.check_slot (model prog w) _ _ ⟨hp, gs, dr, t + 1, os⟩ "BaseException.__getattribute__" "BaseException" "__getattribute__" (.ref x) [.str "__class__" t] [] _ (by decide +kernel) (by decide +kernel) isB (PySem.F.args_bexc_ga (.ref x) (.str "__class__" t)) ?_
  refine wpAny_mono inner (fun fin s' ⟨e1, e2⟩ => ?_) fun _ _ z => z.elim
  subst e1 e2
  show wpAny _ _ (handedOut (.ref D)) _ _ _
  rw [PySem.W.handedOut_of (v := .ref D) rfl]
  first
    | exact wpAny_pure (wpAny_pure q)
    | exact wpAny_pure q
    | exact wpAny_pure (wpAny_bind (wpAny_pure (wpAny_pure q)))
theorem kitx_exo {K : PySem.W.Frag} {x D : Addr} {ox : Obj} {od : Option Obj} (T : ExR K D) : PySem.W.KitX K (.ref x) (.ref D) (fun h => PySem.W.InstAt h x ox D od) where
  ty := fun _ _ _ I => I.type
  it := fun M h X _ => by
    obtain ⟨cd, hc, _⟩ := PySem.W.any_some T.hd
    unfold PySem.W.clsIn at hc
    split at hc
    · rename_i oc dd cd' sl ho
      intro A1 Q1 E1 s1 kp q
      unfold isType loadHead
      exact wpAny_bind (wpAny_loadPart (kp _ _ (X _ _ ho)) (wpAny_pure q))
    · cases hc
  ne := fun h tp dd its n sl X htp => by
    cases hb : (Value.ref D == Value.ref tp) with
    | false => rfl
    | true =>
      have e : D = tp := Value.ref.inj (beq_iff_eq.mp hb)
      subst e
      obtain ⟨cd, hc, _⟩ := PySem.W.any_some T.hd
      unfold PySem.W.clsIn at hc
      split at hc
      · rename_i oc dd2 cd' sl2 ho
        have z := X _ _ ho
        rw [htp] at z
        cases z
      · cases hc
  ca := fun {prog w A E Q s} X I q => by
    obtain ⟨hp, gs, dr, t, os⟩ := s
    exact class_of T X I q
/-- a made exception of the class at D: with its dict at some dx, or without one -/
def ExcAt (H : Hp) (a D : Addr) : Prop := H a = some (exo a D none) ∨ ∃ (dx : Addr) (fs : List (Str × V)), H a = some (exo a D (some dx)) ∧ H dx = some (exd dx fs)
def rIsX (K : PySem.W.Frag) : List V → Hp → VK → Prop := fun xs H Q => ∃ (a D : Addr) (c : V) (cv : Value) (b : Bool), xs = [.ref a, c] ∧ ExcAt H a D ∧ ExR K D ∧ ClsV c cv ∧ PySem.W.kitOne K (.ref D) cv = some b ∧ Q (.bl b) H
theorem call_isx {X : Cx} : CallR X (.builtin "isinstance") (rIsX X.K) := by
  intro pins s σ H xs us Q I r h
  obtain ⟨a, D, c, cv, b, rfl, ha, T, hc, hk, q⟩ := h
  obtain ⟨u1, u2, rfl, r1, r2⟩ := vals2 r
  cases (show u1 = Value.ref a from r1)
  have e := hc.eq r2
  subst e
  have J : ∃ (ox : Obj) (od : Option Obj), PySem.W.InstAt s.heap a ox D od := by
    rcases ha with ha | ⟨dx, fs, ha, hx⟩
    · obtain ⟨t1, ho⟩ := exo_at I.hok ha
      exact ⟨_, none, ho, rfl, rfl, trivial⟩
    · obtain ⟨ox, od, _, J, _⟩ := inst_of I ha hx
      exact ⟨ox, some od, J⟩
  obtain ⟨ox, od, J⟩ := J
  exact PySem.W.kia_one (kitx_exo (ox := ox) (od := od) T) I.kIn J hk (fun z => nomatch z) fun tk => ⟨.bl b, H, I.tok tk, rfl, q⟩
end Sl
/-! ## SlKw -/
set_option Elab.async false
set_option linter.all false
set_option maxRecDepth 100000
set_option maxHeartbeats 4000000
namespace Sl
open PySem PySem.Spec PyProof.Rows L2
section
variable {prog : Program} {w : World} {A : Around} {E : Value → Shared → Prop} {R : Result → Shared → Prop} {h : Heap} {g : Array GenState} {d : Drawn} {t : Nat} {os : OsState}
variable {nm q : Str} {C N : Addr} {bs bm bmB : List Value} {hdct : Bool} {sn : List Str} {sub : List Value} {ab : Bool} {col : Option Bool} {dd : Option Addr} {k0 k1 k2 k3 k5 : Option Value} {B newId initId : String}
theorem kw_tc {kw : List (Str × Value)} {Q : Unit → Shared → Prop} (hC : h.get? C = some (excClassObj nm q C N bs bm hdct sn sub ab col dd k0 k1 k2 k3 k5 newId)) (hq : Q () ⟨h, g, d, t, os⟩) :
    wpAny (model prog w) A (checkBuiltinCall "type.__call__" ⟨[.ref C], kw⟩) Q E ⟨h, g, d, t, os⟩ := by
  have f := tc_sub
  have ht : (⟨h, g, d, t, os⟩ : Shared).TypeIs (.ref C) "type" := ⟨_, hC, rfl⟩
  simp only [checkBuiltinCall, tc_kind, tc_split]
  repeat (any_goals (first | assumption | with_reducible refine wpAny_loadPart_at hC ?_ | with_reducible refine wpAny_onRaise ?_ | with_reducible refine wpAny_map ?_ | wp_step))
theorem kw_check_new (F : ExcBaseFacts B newId initId bmB) (hT : ∀ Y : String, bm.contains (.type Y) = bmB.contains (.type Y)) {kw : List (Str × Value)} {Q : Unit → Shared → Prop}
    (hC : h.get? C = some (excClassObj nm q C N bs bm hdct sn sub ab col dd k0 k1 k2 k3 k5 newId)) (hq : Q () ⟨h, g, d, t, os⟩) : wpAny (model prog w) A (checkBuiltinCall newId ⟨[.ref C], kw⟩) Q E ⟨h, g, d, t, os⟩ := by
  have isSub : (Value.ref C :: bm).contains (.type B) = true := by rw [List.contains_cons, hT, F.hasB, Bool.or_true]
  have noS := F.noStar
  simp only [checkBuiltinCall, F.newKind, F.newSplit, F.newRow]
  repeat (first | refine wpAny_loadPart_at hC ?_ | (refine wpAny_isSubtype_exc hC ?_; rw [isSub]) | refine wpAny_staticBase_exc hC ?_ | refine wpAny_madeBy_exc hC ?_ | simp only [bne_self_eq_false, Bool.false_eq_true, if_false] | wp_step)
  exact hq
theorem kw_new (F : ExcBaseFacts B newId initId bmB) (hT : ∀ Y : String, bm.contains (.type Y) = bmB.contains (.type Y)) {kw : List (Str × Value)}
    (hC : h.get? C = some (excClassObj nm q C N bs bm hdct sn sub ab col dd k0 k1 k2 k3 k5 newId))
    (hq : R (.ok (.ret (.ref (h.objs.size + 1)))) ⟨(h.push (PySem.W.kdv_tup [])).push (PySem.HandSPX.excO C h.objs.size), g, d, t, os⟩) : codeAny (model prog w) A (.builtin newId ⟨[.ref C], kw⟩) R ⟨h, g, d, t, os⟩ := by
  have ends := F.ends
  have c1 : (Value.ref C :: bm).contains (.type B) = true := by rw [List.contains_cons, hT, F.hasB, Bool.or_true]
  have c2 : (Value.ref C :: bm).contains (.type "AttributeError") = false := by rw [List.contains_cons, hT, F.noAttr]; rfl
  have c3 : (Value.ref C :: bm).contains (.type "NameError") = false := by rw [List.contains_cons, hT, F.noName]; rfl
  have small : ([] : List Value).length ≤ sizeLine := Nat.zero_le _
  refine codeAny_builtinAt F.entry ?_
  unfold Builtin.«BaseException.__new__»
  refine PySem.wpAt_bind ?_
  show PySem.wpAt _ _ _ (stack >>= _) _ _ _
  refine PySem.wpAt_bind (PySem.wpAt_stack fun p below => PySem.wpAt_of_wpAny ?_)
  wp_walk
  refine PySem.wpAt_of_wpAny ?_
  rw [F.owner]
  repeat (first | with_reducible refine wpAny_madeHere_exc F.canon hC ?_ | with_reducible refine wpAny_loadPart_at hC ?_ | (with_reducible refine wpAny_isSubtype_exc hC ?_; first | rw [c1] | rw [c2] | rw [c3]) | wp_step)
  show R _ _
  rw [Heap.size_push]
  exact hq
theorem kw_call (F : ExcBaseFacts B newId initId bmB) (hT : ∀ Y : String, bm.contains (.type Y) = bmB.contains (.type Y)) {kw : List (Str × Value)} {fI : Addr} {Q : Fin → Shared → Prop}
    (hC : h.get? C = some (excClassObj nm q C N bs bm hdct sn sub ab col dd k0 k1 k2 k3 k5 newId))
    (hi : PySem.W.Looks (model prog w) h (typeLookup (.ref C) "__init__") (some (.ref fI))) (hb : ∀ self, PySem.W.Looks (model prog w) h (bindSpecial (.ref fI) self) (.ref fI, [self]))
    (hq : codeAny (model prog w) A (.call (.ref fI) ⟨[.ref (h.objs.size + 1)], kw⟩)
      (fun r s' => match r with | .ok (.ret v) => v = .none ∧ Q (.done (.ret (.ref (h.objs.size + 1)))) s' | .ok _ => False | .error e => E e s')
      ⟨(h.push (PySem.W.kdv_tup [])).push (PySem.HandSPX.excO C h.objs.size), g, d, t, os⟩) :
    wpAny (model prog w) A (Builtin.«type.__call__» ⟨[.ref C], kw⟩) Q E ⟨h, g, d, t, os⟩ := by
  repeat (first | with_reducible refine wpAny_loadPart_at hC ?_ | with_reducible refine wpAny_madeBy_exc hC ?_ | wp_step)
  refine codeAny_call_builtin_code (Code.quiet_builtin _ F.quiet) (kw_check_new F hT hC ?_)
  refine kw_new F hT hC ?_
  show wpAny _ _ _ _ _ _
  have kp : ∀ b o, h.get? b = some o → ((h.push (PySem.W.kdv_tup [])).push (PySem.HandSPX.excO C h.objs.size)).get? b = some o := fun b o e => Heap.get?_push_of_some _ (Heap.get?_push_of_some _ e)
  have cC := kp _ _ hC
  have own : ((h.push (PySem.W.kdv_tup [])).push (PySem.HandSPX.excO C h.objs.size)).get? (h.objs.size + 1) = some (PySem.HandSPX.excO C h.objs.size) := by heap_get
  have self : (Value.ref C :: bm).contains (.ref C) = true := by simp
  unfold isInstance
  repeat (first | with_reducible refine wpAny_loadPart_at own ?_ | (with_reducible refine wpAny_isSubtype_exc cC ?_; rw [self]) | wp_step)
  show wpAny _ _ (typeLookup (.ref C) _) _ _ _
  refine (hi.keeps kp).at (wpAny_holding (wpAny_bind (((hb (.ref (h.objs.size + 1))).keeps kp).at ?_)))
  refine wpAny_bind (wpAny_call (codeAny_mono hq fun r s' z => ?_))
  rcases r with e | (v | _ | _ | _) <;> first | exact z | exact z.elim | skip
  obtain ⟨rfl, z⟩ := z
  first
    | exact wpAny_pure (wpAny_pure z)
    | (wp_walk; exact z)
end
section
variable {X : Cx} {CX : CXT} {k : Nat} {fI C : Addr} {fd : FuncData} {ps ks : List Str} {sp : Sp} {x : Str} {p pos : Pos} {kws : List Keyword} {tk : TA} {g : List Value → List Value → List Value} {gV : List V → List V → List V}
/-- C(k = v, ..), an own exception, as a value: keywords alone -/
def tExcK (C : Addr) (m : Nat) (sp : Sp) (gV : List V → List V → List V) (tk : TA) : TE := fun σ H Q => tk σ H fun zs H1 => zs.length = m ∧ ∀ a, H1 a = none → sp (gV [.ref a] zs) (upd H1 a (exo a C none)) (fun v H2 => v = .non ∧ Q (.ref a) H2) (fun _ _ _ => False)
theorem pe_excK (T : OexC X.K C) (iC : PySem.W.findIn X.K (.ref C) "__init__" = some (some (.ref fI))) (tI : PySem.W.typeIn X.K (.ref fI) = some (.type "function"))
    (F1 : FnOk X.prog X.w X.K X.mg X.base CX k fI fd ps sp) (hr : Room (k + 1) X.A) (hb : KBn X.K fd ps 1 ks g gV) (hx : Passes CX X (fun _ _ _ => False)) (hg : Gl X x) (hm : X.mg x = some (.ref C)) (hkw : PK X kws tk)
    (hall : (backToKw pos (keywordEach kws X.env)).all (·.1.isSome) = true := by rfl) (hks : (backToKw pos (keywordEach kws X.env)).filterMap (·.1) = ks := by rfl) (hdb : (x == ("__debug__" : Str)) = false := by decide)
    (hpl : ((backTo pos (starEach [] X.env)).any (·.1) || (backToKw pos (keywordEach kws X.env)).any (·.1.isNone)) = false := by rfl) :
    PE X (.Call (.Name x p) [] kws pos) (tExcK C ks.length sp gV tk) := by
  refine ⟨fun pins s σ H Q I h => ?_⟩
  refine wpAny_Call_Name_kw (ld_glob I hg hm ?_ hdb)
  refine PySem.W.callWith_KW0 (h₀ := X.base) I.ok.mod.kin T.kC hall (thn (hkw.run pos pins s σ H _ I h) fun ws s1 ⟨zs, H1, I1, rz, lz, q1⟩ => ⟨I1.kIn, ?_⟩) hpl
  rw [hks]
  obtain ⟨nm, q, N, bs, bm, sn, sub, ab, col, dd, k0, k1, k2, k3, k5, hC, hbm⟩ := T.cls
  obtain ⟨hp, gs, dr, tk', os⟩ := s1
  have hq := q1 (hp.objs.size + 1) (I1.hok.fresh (Nat.le_succ _))
  have stays : ∀ b o, hp.get? b = some o → ((hp.push (PySem.W.kdv_tup [])).push (PySem.HandSPX.excO C hp.objs.size)).get? b = some o := fun b o e => Heap.get?_push_of_some _ (Heap.get?_push_of_some _ e)
  have mine : ((hp.push (PySem.W.kdv_tup [])).push (PySem.HandSPX.excO C hp.objs.size)).get? (hp.objs.size + 1) = some (PySem.HandSPX.excO C hp.objs.size) := by heap_get
  have I2 := I1.laid (t' := tk') (a := hp.objs.size + 1) (o := exo (hp.objs.size + 1) C none) stays (Nat.le_succ _) (exo_ok mine)
  have r2 := hb.rel (vs := [V.ref (hp.objs.size + 1)]) (us := [Value.ref (hp.objs.size + 1)]) (.cons rfl .nil) rz
  have lw : ws.length = ks.length := rz.length.symm.trans lz
  have cTy : (⟨hp, gs, dr, tk', os⟩ : Shared).TypeIs (.ref C) "type" := ⟨_, I1.kIn _ _ hC, rfl⟩
  have f1 := PySem.tc_lookup
  have f2 := PySem.tc_bind (.ref C)
  refine wpAny_call (codeAny_of_tree ?_)
  show wpAny _ _ (callAny (.ref C) ⟨[], ks.zip ws⟩) _ _ _
  have hC' := I1.kIn _ _ hC
  repeat (any_goals (first | assumption | with_reducible refine wpAny_loadPart_at hC' ?_ | wp_step))
  refine ⟨rfl, ?_⟩
  refine codeAny_call_builtin_at (Code.quiet_builtin _ (by decide +kernel)) PySem.entry_typeCall (kw_tc hC' (kw_call F.excBase_ValueError (fun Y => PySem.HandSPX.refsVE_contains Y bm hbm) hC' (PySem.W.looks_findIn I1.kIn iC) (fun self => PySem.W.bind_fn I1.kIn self tI) ?_))
  refine codeAny_mono (F1.run _ X.stack _ _ ⟨[Value.ref (hp.objs.size + 1)], ks.zip ws⟩ (g [Value.ref (hp.objs.size + 1)] ws) _ _ (fun _ _ _ => False) (hr.make C [] (ks.zip ws)) (I2.env0.make C [] (ks.zip ws)) (hb.to _ [Value.ref (hp.objs.size + 1)] ws I2.kIn rfl lw) r2 hq) fun r s' hq' => ?_
  cases r with
  | error er => exact hx pins σ _ _ er s' I2 hq'
  | ok fl =>
    cases fl with
    | ret u =>
      obtain ⟨v, H3, I3, rv, ev, q3⟩ := I2.after hq'
      subst ev
      exact ⟨rv, ⟨V.ref (hp.objs.size + 1), H3, I3, rfl, q3⟩⟩
    | next => exact False.elim hq'
    | brk => exact False.elim hq'
    | cont => exact False.elim hq'
end
/-- keywords of a def without defaults: one positional value (self), the others by name in the parameters' order -/
theorem kbn_self {K : PySem.W.Frag} {x qual : Str} {params : Arguments} {body : List Stmt} {scope : Scope} {f : Addr} {fd : FuncData} {ps ks : List Str} (F : FunD K x qual params body scope [] [] f fd)
    (h : ∀ (kV doc pm : Value) (an : Option Addr) (cdv ct : Value) (us ws : List Value), us.length = 1 → ws.length = ks.length → bindArgs (PySem.W.fnOf x qual params body scope .none kV doc pm an cdv ct) ⟨us, ks.zip ws⟩ = pure (ps.zip (us ++ ws))) :
    KBn K fd ps 1 ks (fun us ws => us ++ ws) (fun vs zs => vs ++ zs) := by
  obtain ⟨oc, od, dV, kV, doc, pm, an, cdv, ct, osl, rfl, lk, hcd, hD, hK⟩ := F.ex
  rcases hD with ⟨_, rfl⟩ | ⟨e, _⟩
  · exact ⟨fun s us ws X l1 l2 => .of_eq (h kV doc pm an cdv ct us ws l1 l2), fun r1 r2 => r1.append r2⟩
  · exact absurd rfl e
end Sl
/-! ## SlHead -/
set_option Elab.async false
set_option linter.all false
set_option maxRecDepth 100000
set_option maxHeartbeats 4000000
/-! a head's Hook: the defs of the top, facts by names, and any further looks at the written part (the statics of C within) -/
namespace Sl
open PySem PySem.Spec PyProof.Rows L2 He
def asS (g : Addr → Option Obj) (n : Nat) : List Addr := PySem.cStatics :: He.asD g n
abbrev AlS : Type := He.AlD × Bool
def obsS (fa : List Fa) (fn : List DefD) (ex : List (PySem.W.Frag → Bool)) (K : PySem.W.Frag) : AlS := (obsD fa fn K, ex.all fun e => e K)
def obsSG (n : Nat) (fa : List Fa) (fn : List DefD) (ex : List (PySem.W.Frag → Bool)) (g : Addr → Option Obj) : AlS := obsS fa fn ex (frG g (asS g n))
def valS (fn : List DefD) : AlS := (valD fn, true)
def SaysS (fa : List Fa) (fn : List DefD) (ex : List (PySem.W.Frag → Bool)) (K : PySem.W.Frag) : Prop := obsS fa fn ex K = valS fn
def hookS (n : Nat) (fa : List Fa) (fn : List DefD) (ex : List (PySem.W.Frag → Bool)) : PySem.W.Hook where
  α := AlS
  obs := fun s => obsSG n fa fn ex s.heap.get?
  val := fun _ => valS fn
  says := fun _ h => ∃ K : PySem.W.Frag, K.In h ∧ SaysS fa fn ex K
  of := fun _ _ e => ⟨_, frG_in, e⟩
  keeps := fun _ _ _ ⟨K, hK, c⟩ k => ⟨K, PySem.W.Frag.In.keeps hK k, c⟩
theorem obsSG_eq {n : Nat} {fa : List Fa} {fn : List DefD} {ex : List (PySem.W.Frag → Bool)} {g : Addr → Option Obj} {s : Shared} (h : ∀ a, g a = s.heap.get? a) : obsSG n fa fn ex g = (hookS n fa fn ex).obs s := by
  have e : g = s.heap.get? := funext h
  rw [e] <;> rfl
theorem SaysS.d {fa : List Fa} {fn : List DefD} {ex : List (PySem.W.Frag → Bool)} {K : PySem.W.Frag} (c : SaysS fa fn ex K) : SaysD fa fn K := congrArg (fun z : AlS => z.1) c
theorem SaysS.x {fa : List Fa} {fn : List DefD} {ex : List (PySem.W.Frag → Bool)} {K : PySem.W.Frag} (c : SaysS fa fn ex K) (i : Nat) {e : PySem.W.Frag → Bool} (h : ex[i]? = some e := by rfl) : e K = true := by
  have c1 : (ex.all fun e => e K) = true := congrArg (fun z : AlS => z.2) c
  exact List.all_eq_true.mp c1 e (List.mem_of_getElem? h)
/-! ### an own exception's class -/
def oexB (K : PySem.W.Frag) (C : Addr) : Bool := match K.lookup C with
  | some ⟨.type t, _, .cls cd, sl⟩ => decide (t = "type") && (match cd.mro, sl.toList with
    | .ref C' :: bm, [_, _, _, _, some (.builtin n), _] => decide (C' = C) && (decide (n = "ValueError.__new__") && (!cd.hasDel && (cd.hasDict && PySem.HandSPX.refsVE bm)))
    | _, _ => false)
  | _ => false
theorem oexB_ok {K : PySem.W.Frag} {C : Addr} (h : oexB K C = true) : ∃ nm q N bs bm sn sub ab col dd k0 k1 k2 k3 k5, K.lookup C = some (excClassObj nm q C N bs bm true sn sub ab col dd k0 k1 k2 k3 k5 "ValueError.__new__") ∧ PySem.HandSPX.refsVE bm = true := by
  unfold oexB at h
  split at h
  · rename_i t dd cd sl ho
    obtain ⟨h1, h2⟩ := ba h
    have e1 : t = "type" := of_decide_eq_true h1
    subst e1
    split at h2
    · rename_i C' bm k0 k1 k2 k3 n k5 hm hs
      obtain ⟨a1, h3⟩ := ba h2
      obtain ⟨a2, h4⟩ := ba h3
      obtain ⟨a3, h5⟩ := ba h4
      obtain ⟨a4, a5⟩ := ba h5
      have e2 : C' = C := of_decide_eq_true a1
      have e3 : n = "ValueError.__new__" := of_decide_eq_true a2
      subst e2 e3
      obtain ⟨nm, bs, mro, ns, qn, hdct, sn, sub, ab, col, hdel⟩ := cd
      have e4 : mro = .ref C' :: bm := hm
      have e5 : hdct = true := a4
      have e6 : hdel = false := by
        cases hdel with
        | false => rfl
        | true => cases a3
      have e7 : sl = #[k0, k1, k2, k3, some (.builtin "ValueError.__new__"), k5] := by
        rw [← Array.toArray_toList (xs := sl), hs]
      subst e4 e5 e6 e7
      exact ⟨_, _, _, _, _, _, _, _, _, _, _, _, _, _, _, ho, a5⟩
    · cases h2
  · cases h
def excB (K : PySem.W.Frag) (C : Addr) : Bool := oexB K C && (eqO (PySem.W.findIn K (.ref C) "__setattr__") (some (some (.builtin "object.__setattr__"))) && (decide (PySem.W.subIn K (.ref C) (.type "BaseException") = some true) && (decide (PySem.W.typeIn K (.ref C) = some (.type "type")) && PySem.W.keepIn K (.ref C))))
theorem excB_ok {K : PySem.W.Frag} {C : Addr} (h : excB K C = true) : OexC K C := by
  obtain ⟨a1, h⟩ := ba h
  obtain ⟨a2, h⟩ := ba h
  obtain ⟨a3, h⟩ := ba h
  obtain ⟨a4, a5⟩ := ba h
  exact ⟨oexB_ok a1, eqO_ok a2, of_decide_eq_true a3, of_decide_eq_true a4, a5⟩
def exrB (K : PySem.W.Frag) (C : Addr) : Bool := eqO (PySem.W.findIn K (.ref C) "__getattribute__") (some (some (.builtin "BaseException.__getattribute__"))) && (eqO (PySem.W.findIn K (.ref C) "__getattr__") (some none) && (decide (PySem.W.subIn K (.ref C) (.type "BaseException") = some true) && (PySem.W.hasDictIn K C &&
  (eqO (PySem.W.findIn K (.ref C) "__class__") (some (some (.builtin "object.__class__"))) && (eqO (PySem.W.specialIn K (.builtin "object.__class__") "__get__") (some (some (.builtin "getset_descriptor.__get__"))) && (decide (PySem.W.takesIn K (.builtin "object.__class__") = some true) && decide (PySem.W.mroIn K C (.type "object") = some true)))))))
theorem exrB_ok {K : PySem.W.Frag} {C : Addr} (h : exrB K C = true) : ExR K C := by
  obtain ⟨a1, h⟩ := ba h
  obtain ⟨a2, h⟩ := ba h
  obtain ⟨a3, h⟩ := ba h
  obtain ⟨a4, h⟩ := ba h
  obtain ⟨a5, h⟩ := ba h
  obtain ⟨a6, h⟩ := ba h
  obtain ⟨a7, a8⟩ := ba h
  exact ⟨eqO_ok a1, eqO_ok a2, of_decide_eq_true a3, a4, eqO_ok a5, eqO_ok a6, of_decide_eq_true a7, of_decide_eq_true a8⟩
def iniB (K : PySem.W.Frag) (C : Addr) : Bool := eqO (PySem.W.findIn K (.ref C) "__init__") (some (some (.ref (ma K C "__init__")))) && decide (PySem.W.typeIn K (.ref (ma K C "__init__")) = some (.type "function"))
theorem iniB_ok {K : PySem.W.Frag} {C : Addr} (h : iniB K C = true) : PySem.W.findIn K (.ref C) "__init__" = some (some (.ref (ma K C "__init__"))) ∧ PySem.W.typeIn K (.ref (ma K C "__init__")) = some (.type "function") := by
  obtain ⟨a1, a2⟩ := ba h
  exact ⟨eqO_ok a1, of_decide_eq_true a2⟩
/-- an own error x without a field, with the field fld -/
def err0B (x : Str) (K : PySem.W.Frag) : Bool := excB K (ga K x) && (exrB K (ga K x) && iniB K (ga K x))
def errB (x fld : Str) (K : PySem.W.Frag) : Bool := err0B x K && eqO (PySem.W.findIn K (.ref (ga K x)) fld) (some none)
/-- a value read off a class -/
def clvB (K : PySem.W.Frag) (c : Value) (m : Str) (v : Value) : Bool := match PySem.W.findCls K c (.type "type") m with
  | some (.val u) => decide (u = v)
  | _ => false
theorem clvB_ok {K : PySem.W.Frag} {c : Value} {m : Str} {v : Value} (h : clvB K c m v = true) : PySem.W.findCls K c (.type "type") m = some (.val v) := by
  unfold clvB at h
  split at h
  · rename_i u e
    rw [e, of_decide_eq_true h]
  · cases h
def crdB (K : PySem.W.Frag) (C : Addr) : Bool := PySem.W.readsIn K C (.type "type") && eqO (PySem.W.specialIn K (.ref C) "__getattribute__") (some (some (.builtin "type.__getattribute__")))
theorem crdB_ok {K : PySem.W.Frag} {C : Addr} (h : crdB K C = true) : ClX.CRead K C (.type "type") := by
  obtain ⟨a1, a2⟩ := ba h
  exact ⟨a1, eqO_ok a2⟩
/-- each isinstance of the one kind, by the other -/
def kitB (as bs : List Str) (b : Nat → Nat → Bool) (K : PySem.W.Frag) : Bool := (as.zipIdx).all fun p => (bs.zipIdx).all fun q => decide (PySem.W.kitOne K (.ref (ga K p.1)) (.ref (ga K q.1)) = some (b p.2 q.2))
theorem kitB_ok {as bs : List Str} {b : Nat → Nat → Bool} {K : PySem.W.Frag} (h : kitB as bs b K = true) {i j : Nat} {x y : Str} (hi : as[i]? = some x) (hj : bs[j]? = some y) : PySem.W.kitOne K (.ref (ga K x)) (.ref (ga K y)) = some (b i j) := by
  have h1 := List.all_eq_true.mp h (x, i) (by rw [List.mk_mem_zipIdx_iff_getElem?]; exact hi)
  have h2 := List.all_eq_true.mp h1 (y, j) (by rw [List.mk_mem_zipIdx_iff_getElem?]; exact hj)
  exact of_decide_eq_true h2
def kitVB (as : List Str) (T : String) (b : Bool) (K : PySem.W.Frag) : Bool := as.all fun x => decide (PySem.W.kitOne K (.ref (ga K x)) (.type T) = some b)
theorem kitVB_ok {as : List Str} {T : String} {b : Bool} {K : PySem.W.Frag} (h : kitVB as T b K = true) {x : Str} (hx : x ∈ as) : PySem.W.kitOne K (.ref (ga K x)) (.type T) = some b := of_decide_eq_true (List.all_eq_true.mp h x hx)
end Sl
/-! ## TabB -/
set_option Elab.async false
set_option linter.all false
set_option maxRecDepth 100000
set_option maxHeartbeats 8000000
namespace Lw
open PySem PySem.Spec PyProof.Rows L2 Sl
section
variable {P : Program} {w : World} {K : PySem.W.Frag} {mg : Str → Option Value} {base : Heap} {f : Addr} {fd : FuncData} {C : Addr}
/-- the same, its dicts locked or not -/
def TabR (H : Hp) (C t : Addr) (A B : NI) : Prop := ∃ dx d1 d2, H t = some (.ins C dx [("_numbers", .ref d1), ("_worths", .ref d2)]) ∧ Rd H d1 (dI A) ∧ Rd H d2 (dI B)
theorem rd_same {H H' : Hp} {a : Addr} {u : HO} (h : Rd H a u) (k : Same H H') : Rd H' a u := by
  rcases h with h | ⟨o, h⟩
  · exact .inl (k _ _ h)
  · exact .inr ⟨o, k _ _ h⟩
theorem TabR.same {H H' : Hp} {C t : Addr} {A B : NI} (h : TabR H C t A B) (k : Same H H') : TabR H' C t A B := let ⟨dx, d1, d2, a, b, c⟩ := h; ⟨dx, d1, d2, k _ _ a, rd_same b k, rd_same c k⟩
theorem TabAt.r {H : Hp} {C t : Addr} {A B : NI} (h : TabAt H C t A B) : TabR H C t A B := let ⟨dx, d1, d2, a, b, c⟩ := h; ⟨dx, d1, d2, a, .inl b, .inl c⟩
theorem TabR.lock {H : Hp} {C t d : Addr} {A B N : NI} {od : Obj} (h : TabR H C t A B) (hd : H d = some (dI N)) : TabR (upd H d (.frz od (dI N))) C t A B := by
  obtain ⟨dx, d1, d2, ht, h1, h2⟩ := h
  have nt : t ≠ d := fun e => by rw [e, hd] at ht; cases ht
  have lk : ∀ {c : Addr} {M : NI}, Rd H c (dI M) → Rd (upd H d (.frz od (dI N))) c (dI M) := by
    intro c M h
    by_cases e : c = d
    · subst e
      rcases h with h | ⟨o, h⟩
      · rw [hd] at h
        rw [← Option.some.inj h]
        exact .inr ⟨od, upd_same⟩
      · rw [hd] at h
        cases h
    · rcases h with h | ⟨o, h⟩
      · exact .inl (by rw [upd_ne e]; exact h)
      · exact .inr ⟨o, by rw [upd_ne e]; exact h⟩
  exact ⟨dx, d1, d2, by rw [upd_ne nt]; exact ht, lk h1, lk h2⟩
/-- what an odd name asks -/
def OddN (K : PySem.W.Frag) (H : Hp) (v : V) : Prop := ∃ t, TyX K H v t ∧ PySem.W.kitOne K t (.type "str") = some false
theorem getD_kvi (A : NI) (z : Str) : (valV (A.map kvi) (.inr z)).getD (.int 0) = .int (get0 A z) := by
  rw [valV_kvi]
  unfold get0
  cases get? A z <;> rfl
def sp_rows (K : PySem.W.Frag) (C : Addr) (first : Bool) : Sp := fun vs H Q _ => ∃ (t : Addr) (v : V) (A B : NI), vs = [.ref t, v] ∧ TabR H C t A B ∧
  ((∃ z : Str, v = .str z ∧ nameB z = true ∧ ∀ H', Same H H' → Q (.int (get0 (if first then A else B) z)) H') ∨ (OddN K H v ∧ ∀ H', Same H H' → Q (.int 0) H'))
theorem ok_rows (F : FunD K "rows" "Table.rows" (defArgs s_Table_rows) (defBody s_Table_rows) (defScope s_Table_rows) [] [] f fd) (T : TabC K C) (N : Cal P w K mg base 1 "is_name" [] (sp_isname K)) : FnOk P w K mg base CX0 2 f fd ["self", "kind"] (sp_rows K C true) := by
  refine F.ok sc_Table_rows (fun vs H Q E h => ?_) (fun cdv A outer s H vs Q E hr h => ?_)
  · obtain ⟨t, v, A, B, rfl, _⟩ := h
    rfl
  · obtain ⟨t, v, A, B, rfl, ⟨dx, d1, d2, ht, h1, h2⟩, h⟩ := h
    refine ⟨_, PSs.nox (pss_one (ps_ret (pe_ifExp (pt_val (pe_cal N hr (pa_cons (pv 1) pa_nil))) (pe_dget2 (hu_of hr) (pe_fld (pv 0) rfl) (pv 1) pe_int ⟨rfl, rfl, rfl, rfl⟩) pe_int))), ?_⟩
    rcases h with ⟨z, rfl, hz, k⟩ | ⟨⟨ty, h3, h4⟩, k⟩
    · refine ⟨_, rfl, _, rfl, .inl ⟨z, rfl, (by have := nameB_len hz; omega), fun H' sm => ⟨_, rfl, ?_⟩⟩⟩
      rw [hz]
      refine iteT ⟨_, rfl, t, C, dx, _, .ref d1, rfl, sm _ _ ht, T.cl, T.nN, rfl, d1, rfl, .inl ⟨_, rd_same h1 sm⟩, _, rfl, valV (A.map kvi) (.inr z), .inl ⟨A.map kvi, .inr z, rd_same h1 sm, rfl, rfl⟩, ?_⟩
      rw [getD_kvi]
      exact k H' sm
    · exact ⟨_, rfl, _, rfl, .inr ⟨ty, h3, h4, fun H' sm => ⟨_, rfl, iteF (k H' sm)⟩⟩⟩
theorem ok_worth (F : FunD K "worth" "Table.worth" (defArgs s_Table_worth) (defBody s_Table_worth) (defScope s_Table_worth) [] [] f fd) (T : TabC K C) (N : Cal P w K mg base 1 "is_name" [] (sp_isname K)) : FnOk P w K mg base CX0 2 f fd ["self", "counter"] (sp_rows K C false) := by
  refine F.ok sc_Table_worth (fun vs H Q E h => ?_) (fun cdv A outer s H vs Q E hr h => ?_)
  · obtain ⟨t, v, A, B, rfl, _⟩ := h
    rfl
  · obtain ⟨t, v, A, B, rfl, ⟨dx, d1, d2, ht, h1, h2⟩, h⟩ := h
    refine ⟨_, PSs.nox (pss_one (ps_ret (pe_ifExp (pt_val (pe_cal N hr (pa_cons (pv 1) pa_nil))) (pe_dget2 (hu_of hr) (pe_fld (pv 0) rfl) (pv 1) pe_int ⟨rfl, rfl, rfl, rfl⟩) pe_int))), ?_⟩
    rcases h with ⟨z, rfl, hz, k⟩ | ⟨⟨ty, h3, h4⟩, k⟩
    · refine ⟨_, rfl, _, rfl, .inl ⟨z, rfl, (by have := nameB_len hz; omega), fun H' sm => ⟨_, rfl, ?_⟩⟩⟩
      rw [hz]
      refine iteT ⟨_, rfl, t, C, dx, _, .ref d2, rfl, sm _ _ ht, T.cl, T.nW, rfl, d2, rfl, .inl ⟨_, rd_same h2 sm⟩, _, rfl, valV (B.map kvi) (.inr z), .inl ⟨B.map kvi, .inr z, rd_same h2 sm, rfl, rfl⟩, ?_⟩
      rw [getD_kvi]
      exact k H' sm
    · exact ⟨_, rfl, _, rfl, .inr ⟨ty, h3, h4, fun H' sm => ⟨_, rfl, iteF (k H' sm)⟩⟩⟩
def sp_kinds (C : Addr) (first : Bool) : Sp := fun vs H Q _ => ∃ (t : Addr) (A B : NI), vs = [.ref t] ∧ TabAt H C t A B ∧ A.length ≤ 60 ∧ B.length ≤ 60 ∧
  ∀ (ys : List Str) (p : Addr), ys.Perm (ks (if first then A else B)) → sortedS ys = true → H p = none → Q (.ref p) (upd H p (.lst (ys.map V.str)))
theorem ok_row_kinds (F : FunD K "row_kinds" "Table.row_kinds" (defArgs s_Table_row_kinds) (defBody s_Table_row_kinds) (defScope s_Table_row_kinds) [] [] f fd) (T : TabC K C) (mS : mg "sorted" = none) : FnOk P w K mg base CX0 1 f fd ["self"] (sp_kinds C true) := by
  refine F.ok sc_Table_row_kinds (fun vs H Q E h => ?_) (fun cdv A outer s H vs Q E hr h => ?_)
  · obtain ⟨t, A, B, rfl, _⟩ := h
    rfl
  · obtain ⟨t, A, B, rfl, ⟨dx, d1, d2, ht, h1, h2⟩, la, lb, k⟩ := h
    refine ⟨_, PSs.nox (pss_one (ps_ret (pe_callB (call_sortedD rfl) (by rfl) mS (by decide +kernel) (pa_cons (pe_fld (pv 0) rfl) pa_nil)))), ?_⟩
    exact ⟨_, rfl, t, C, dx, _, .ref d1, rfl, ht, T.cl, T.nN, rfl, d1, A.map kvi, ks A, rfl, .inl h1, keys_kvi A, (by unfold ks; rw [List.length_map]; omega), fun ys p pm so hp => k ys p pm so hp⟩
theorem ok_counter_names (F : FunD K "counter_names" "Table.counter_names" (defArgs s_Table_counter_names) (defBody s_Table_counter_names) (defScope s_Table_counter_names) [] [] f fd) (T : TabC K C) (mS : mg "sorted" = none) : FnOk P w K mg base CX0 1 f fd ["self"] (sp_kinds C false) := by
  refine F.ok sc_Table_counter_names (fun vs H Q E h => ?_) (fun cdv A outer s H vs Q E hr h => ?_)
  · obtain ⟨t, A, B, rfl, _⟩ := h
    rfl
  · obtain ⟨t, A, B, rfl, ⟨dx, d1, d2, ht, h1, h2⟩, la, lb, k⟩ := h
    refine ⟨_, PSs.nox (pss_one (ps_ret (pe_callB (call_sortedD rfl) (by rfl) mS (by decide +kernel) (pa_cons (pe_fld (pv 0) rfl) pa_nil)))), ?_⟩
    exact ⟨_, rfl, t, C, dx, _, .ref d2, rfl, ht, T.cl, T.nW, rfl, d2, B.map kvi, ks B, rfl, .inl h2, keys_kvi B, (by unfold ks; rw [List.length_map]; omega), fun ys p pm so hp => k ys p pm so hp⟩
def sumI (A : NI) : Int := (A.map (·.2)).sum
def sp_size (C : Addr) : Sp := fun vs H Q _ => ∃ (t : Addr) (A B : NI), vs = [.ref t] ∧ TabAt H C t A B ∧ Q (.int (sumI A)) H
theorem ok_size (F : FunD K "size" "Table.size" (defArgs s_Table_size) (defBody s_Table_size) (defScope s_Table_size) [] [] f fd) (T : TabC K C) (mS : mg "sum" = none) : FnOk P w K mg base CX0 1 f fd ["self"] (sp_size C) := by
  refine F.ok sc_Table_size (fun vs H Q E h => ?_) (fun cdv A outer s H vs Q E hr h => ?_)
  · obtain ⟨t, A, B, rfl, _⟩ := h
    rfl
  · obtain ⟨t, A, B, rfl, ⟨dx, d1, d2, ht, h1, h2⟩, k⟩ := h
    refine ⟨_, PSs.nox (pss_one (ps_ret (pe_sumVals rfl (by rfl) mS (pe_fld (pv 0) rfl)))), ?_⟩
    exact ⟨_, rfl, t, C, dx, _, .ref d1, rfl, ht, T.cl, T.nN, rfl, d1, A.map kvi, (A.map fun p : Str × Int => p.2), rfl, h1, vals_kvi A, k⟩
/-! ### == and + -/
theorem kit_self (K : PySem.W.Frag) (C : Addr) : PySem.W.kitOne K (.ref C) (.ref C) = some true := by
  unfold PySem.W.kitOne
  rw [beq_self_eq_true, if_pos rfl]
def sp_teq (K : PySem.W.Frag) (C : Addr) : Sp := fun vs H Q _ => ∃ (t : Addr) (v : V) (A B : NI), vs = [.ref t, v] ∧ TabAt H C t A B ∧
  ((∃ (u : Addr) (A' B' : NI), v = .ref u ∧ TabAt H C u A' B' ∧ Q (.bl (eqI A A' && eqI B B')) H) ∨ (∃ t, TyX K H v t ∧ PySem.W.kitOne K t (.ref C) = some false ∧ Q (.bl false) H))
theorem ok_teq (F : FunD K "__eq__" "Table.__eq__" (defArgs s_Table___eq__) (defBody s_Table___eq__) (defScope s_Table___eq__) [] [] f fd) (T : TabC K C) (mI : mg "isinstance" = none) (gT : mg "Table" = some (.ref C)) : FnOk P w K mg base CX0 1 f fd ["self", "other"] (sp_teq K C) := by
  refine F.ok sc_Table___eq__ (fun vs H Q E h => ?_) (fun cdv A outer s H vs Q E hr h => ?_)
  · obtain ⟨t, v, A, B, rfl, _⟩ := h
    rfl
  · obtain ⟨t, v, A, B, rfl, ⟨dx, d1, d2, ht, h1, h2⟩, h⟩ := h
    have hu := hr.units0
    refine ⟨_, PSs.nox (pss_one (ps_ret (pe_and (pe_callB call_isi (by rfl) mI PyProof.Rows.Boot.«isinstance» (pa_cons (pv 1) (pa_cons (pe_glob (v := .ref C) (by rfl) gT rfl) pa_nil)))
      (pe_and (pe_cmpR (op_eqDic hu) (pe_fld (pv 0) rfl) (pe_fld (pv 1) rfl) (nomark _)) (pe_one (pe_cmpR (op_eqDic hu) (pe_fld (pv 0) rfl) (pe_fld (pv 1) rfl) (nomark _))))))), ?_⟩
    rcases h with ⟨u, A', B', rfl, ⟨dy, e1, e2, hu', g1, g2⟩, k⟩ | ⟨ty, h3, h4, k⟩
    · refine ⟨_, rfl, _, .ref C, .ref C, .ref C, true, rfl, .own C, .base (.ins hu' T.cl T.ca T.sg T.tk T.ob), kit_self K C, _, rfl, iteT ?_⟩
      refine ⟨_, rfl, t, C, dx, _, .ref d1, rfl, ht, T.cl, T.nN, rfl, _, rfl, u, C, dy, _, .ref e1, rfl, hu', T.cl, T.nN, rfl, d1, e1, _, _, rfl, rfl, .inl h1, .inl g1, flat_dI A, flat_dI A', ?_⟩
      refine ⟨_, rfl, ite_of (fun c => ?_) (fun c => ?_)⟩
      · refine ⟨_, rfl, t, C, dx, _, .ref d2, rfl, ht, T.cl, T.nW, rfl, _, rfl, u, C, dy, _, .ref e2, rfl, hu', T.cl, T.nW, rfl, d2, e2, _, _, rfl, rfl, .inl h2, .inl g2, flat_dI B, flat_dI B', ?_⟩
        have c' : eqI A A' = true := c
        rw [c', Bool.true_and] at k
        exact k
      · have c' : eqI A A' = false := c
        rw [c', Bool.false_and] at k
        exact k
    · exact ⟨_, rfl, _, .ref C, ty, .ref C, false, rfl, .own C, h3, h4, _, rfl, iteF k⟩
def sp_tadd (K : PySem.W.Frag) (C : Addr) : Sp := fun vs H Q _ => ∃ (t u : Addr) (A B A' B' : NI), vs = [.ref t, .ref u] ∧ TabAt H C t A B ∧ TabAt H C u A' B' ∧ okNI A false ∧ okNI B true ∧ okNI A' false ∧ okNI B' true ∧ A.length ≤ 400 ∧ B.length ≤ 400 ∧ A'.length ≤ 400 ∧ B'.length ≤ 400 ∧
  ∀ (r : Addr) (S U : NI) (H' : Hp), Same H H' → TabAt H' C r (nz S) (nz U) → okNI S false → okNI U true → (∀ x, x ∈ ks S ↔ x ∈ ks A ∨ x ∈ ks A') → (∀ x, get0 S x = get0 A x + get0 A' x) → (∀ x, x ∈ ks U ↔ x ∈ ks B ∨ x ∈ ks B') → (∀ x, get0 U x = get0 B x + get0 B' x) → Q (.ref r) H'
end
end Lw
/-! ## TabD -/
set_option Elab.async false
set_option linter.all false
set_option maxRecDepth 100000
set_option maxHeartbeats 8000000
namespace Lw
open PySem PySem.Spec PyProof.Rows L2 Sl
/-- the class Table as it is called -/
structure TabF (P : Program) (w : World) (K : PySem.W.Frag) (mg : Str → Option Value) (base : Heap) (C : Addr) : Prop where
  g : mg "Table" = some (.ref C)
  T : TabC K C
  ex : ∃ (fI : Addr) (fdI : FuncData), Mk K C fI ∧ FnOk P w K mg base CX0 4 fI fdI ["self", "rows", "counters"] (sp_tinit K C) ∧ Binds K fdI ["self", "rows", "counters"] [] ∧ ∃ dT : Addr, KTup K dT ∧ Binds K fdI ["self", "rows", "counters"] [.ref dT]
section
variable {P : Program} {w : World} {K : PySem.W.Frag} {mg : Str → Option Value} {base : Heap} {f : Addr} {fd : FuncData} {C : Addr}
theorem tmake_k {H1 : Hp} {Q : VK} {E : XK} {a b : Addr} {A B : NI} (ha : PArg K H1 a A) (oA : okNI A false) (hb : PArg K H1 b B) (oB : okNI B true) (k : ∀ x d1 d2 H', H1 x = none → H1 d1 = none → H1 d2 = none → Same H1 H' → TabX H' C x (nz A) (nz B) d1 d2 → Q (.ref x) H') :
    ∀ x dx, H1 x = none → H1 dx = none → dx ≠ x → sp_tinit K C [.ref x, .ref a, .ref b] (upd (upd H1 dx (.own x)) x (.ins C dx [])) (fun v H2 => v = .non ∧ Q (.ref x) H2) E := by
  intro x dx hx hdx ne
  have s0 : Same H1 (upd (upd H1 dx (.own x)) x (.ins C dx [])) := fun c o e => by
    rw [upd_ne (ne_of_none e hx), upd_ne (ne_of_none e hdx)]
    exact e
  have fr : ∀ {c : Addr}, (upd (upd H1 dx (.own x)) x (.ins C dx [])) c = none → H1 c = none := fun {c} h => by
    cases e : H1 c with
    | none => rfl
    | some o => rw [s0 _ _ e] at h; cases h
  exact ⟨x, dx, a, b, A, B, rfl, upd_same, ha.same s0, oA, hb.same s0, oB, fun H' d1 d2 kp f1 f2 tb => ⟨rfl, k x d1 d2 H' hx (fr f1) (fr f2) (fun c o e => kp c o (ne_of_none e hx) (s0 c o e)) tb⟩⟩
section
variable {X : Cx} {e1 e2 : Expr} {t : TA} {p pos : Pos}
theorem pe_table2 (h : TabF X.prog X.w X.K X.mg X.base C) (hr : Room 5 X.A) (ha : PA X [e1, e2] t) (hg : Gl X "Table" := by rfl)
    (he : starEach [e1, e2] X.env = (false, eval e1 X.env) :: starEach [e2] X.env := by rfl) (hpl : (backTo pos (starEach [e2] X.env)).any (·.1) = false := by rfl) :
    PE X (.Call (.Name "Table" p) [e1, e2] [] pos) (tMake C (sp_tinit X.K C) [] E0 t) := by
  obtain ⟨fI, fdI, M, F, b, _⟩ := h.ex
  exact pe_make M F hr hg h.g b .nil pass0 ha (by decide) he hpl
end
end
def tTab1 (K : PySem.W.Frag) (C : Addr) (t : TA) : TE := fun σ H Q => ∀ dT, KTup K dT → tMake C (sp_tinit K C) [.ref dT] E0 t σ H Q
section
variable {X : Cx} {C : Addr} {e1 : Expr} {t : TA} {p pos : Pos}
theorem pe_table1 (h : TabF X.prog X.w X.K X.mg X.base C) (hr : Room 5 X.A) (ha : PA X [e1] t) (hg : Gl X "Table" := by rfl)
    (he : starEach [e1] X.env = (false, eval e1 X.env) :: starEach [] X.env := by rfl) (hpl : (backTo pos (starEach [] X.env)).any (·.1) = false := by rfl) :
    PE X (.Call (.Name "Table" p) [e1] [] pos) (tTab1 X.K C t) := by
  obtain ⟨fI, fdI, M, F, _, dT, kT, b⟩ := h.ex
  exact ⟨fun pins s σ H Q I q => (pe_make M F hr hg h.g b (show Vals [V.ref dT] [Value.ref dT] from .cons rfl .nil) pass0 ha (by decide) he hpl).run pins s σ H Q I (q dT kT)⟩
end
section
variable {P : Program} {w : World} {K : PySem.W.Frag} {mg : Str → Option Value} {base : Heap} {f : Addr} {fd : FuncData} {C : Addr}
theorem ok_tadd (F : FunD K "__add__" "Table.__add__" (defArgs s_Table___add__) (defBody s_Table___add__) (defScope s_Table___add__) [] [] f fd) (G : TabF P w K mg base C) (S : Cal P w K mg base 1 "sums" [] sp_sums) (mI : mg "isinstance" = none) :
    FnOk P w K mg base CX0 6 f fd ["self", "other"] (sp_tadd K C) := by
  refine F.ok sc_Table___add__ (fun vs H Q E h => ?_) (fun cdv A outer s H vs Q E hr h => ?_)
  · obtain ⟨t, u, A, B, A', B', rfl, _⟩ := h
    rfl
  · obtain ⟨t, u, A, B, A', B', rfl, ⟨dx, d1, d2, ht, h1, h2⟩, ⟨dy, e1, e2, hu', g1, g2⟩, oA, oB, oA', oB', la, lb, la', lb', k⟩ := h
    have hr1 := hr.mono (show 1 ≤ 5 by decide)
    have T := G.T
    refine ⟨_, PSs.nox (pss_cons (ps_if (pt_not (pt_val (pe_callB call_isi (by rfl) mI PyProof.Rows.Boot.«isinstance» (pa_cons (pv 1) (pa_cons (pe_glob (v := .ref C) (by rfl) G.g rfl) pa_nil))))) (pss_one ps_never) pss_nil)
      (pss_one (ps_ret (pe_table2 G hr (pa_cons (pe_cal S hr1 (pa_cons (pe_fld (pv 0) rfl) (pa_cons (pe_fld (pv 1) rfl) pa_nil))) (pa_cons (pe_cal S hr1 (pa_cons (pe_fld (pv 0) rfl) (pa_cons (pe_fld (pv 1) rfl) pa_nil))) pa_nil)))))), ?_⟩
    refine ifs_of ⟨_, rfl, _, .ref C, .ref C, .ref C, true, rfl, .own C, .base (.ins hu' T.cl T.ca T.sg T.tk T.ob), kit_self K C, _, rfl, iteF (nx_of ?_)⟩
    refine ⟨_, rfl, t, C, dx, _, .ref d1, rfl, ht, T.cl, T.nN, rfl, _, rfl, u, C, dy, _, .ref e1, rfl, hu', T.cl, T.nN, rfl, d1, e1, A, A', rfl, h1, g1, oA.1, oA'.1, la, la', fun p1 S1 H1 hp1 s1 q1 nS1 mS1 vS1 lS1 => ?_⟩
    refine ⟨_, rfl, t, C, dx, _, .ref d2, rfl, s1 _ _ ht, T.cl, T.nW, rfl, _, rfl, u, C, dy, _, .ref e2, rfl, s1 _ _ hu', T.cl, T.nW, rfl, d2, e2, B, B', rfl, s1 _ _ h2, s1 _ _ g2, oB.1, oB'.1, lb, lb', fun p2 S2 H2 hp2 s2 q2 nS2 mS2 vS2 lS2 => ?_⟩
    have nm : ∀ {M : NI} {b : Bool}, okNI M b → ∀ x ∈ ks M, nameB x = true := fun o x hx => by
      obtain ⟨p, hp, e⟩ := List.mem_map.mp hx
      rw [← e]
      exact o.2.1 p hp
    have nn : ∀ {M : NI}, okNI M false → ∀ x, 0 ≤ get0 M x := fun {M} o x => by
      unfold get0
      cases e : get? M x with
      | none => exact Int.le_refl 0
      | some i =>
        rcases o.2.2.1 with h | h
        · cases h
        · exact h _ (get?_mem e)
    have o1 : okNI S1 false := ⟨nS1, fun p hp => by
      rcases (mS1 p.1).mp (List.mem_map.mpr ⟨p, hp, rfl⟩) with h | h
      · exact nm oA _ h
      · exact nm oA' _ h, .inr fun p hp => by
      have e : get0 S1 p.1 = p.2 := by
        unfold get0
        rw [get?_of nS1 (show (p.1, p.2) ∈ S1 from hp)]
        rfl
      rw [← e, vS1]
      have a1 := nn oA p.1
      have a2 := nn oA' p.1
      omega, by omega⟩
    have o2 : okNI S2 true := ⟨nS2, fun p hp => by
      rcases (mS2 p.1).mp (List.mem_map.mpr ⟨p, hp, rfl⟩) with h | h
      · exact nm oB _ h
      · exact nm oB' _ h, .inl rfl, by omega⟩
    exact tmake_k (.inl (s2 _ _ q1)) o1 (.inl q2) o2 fun x d1 d2 H' hx _ _ sm tb => k x S1 S2 H' ((s1.trans s2).trans sm) tb.at_ o1 o2 mS1 vS1 mS2 vS2
end
end Lw
/-! ## DicP -/
set_option Elab.async false
set_option linter.all false
set_option maxRecDepth 100000
set_option maxHeartbeats 4000000
namespace Sl
open PySem PySem.Spec PyProof.Rows L2
theorem nodup_perm {α : Type} [DecidableEq α] : ∀ {xs ys : List α}, xs.Nodup → ys.Nodup → (∀ a, a ∈ xs ↔ a ∈ ys) → xs.Perm ys
  | [], ys, _, _, h => by
    have : ys = [] := List.eq_nil_iff_forall_not_mem.mpr fun a ha => List.not_mem_nil ((h a).mpr ha)
    rw [this]
  | x :: xs, ys, hx, hy, h => by
    obtain ⟨h1, h2⟩ := List.nodup_cons.mp hx
    have hm : x ∈ ys := (h x).mp List.mem_cons_self
    refine (List.Perm.cons x (nodup_perm h2 (hy.erase x) fun a => ?_)).trans (List.perm_cons_erase hm).symm
    rw [List.Nodup.mem_erase_iff hy]
    constructor
    · intro ha
      exact ⟨fun e => h1 (e ▸ ha), (h a).mp (List.mem_cons_of_mem _ ha)⟩
    · rintro ⟨ne, ha⟩
      rcases List.mem_cons.mp ((h a).mpr ha) with e | q
      · exact absurd e ne
      · exact q
theorem perm_unique {α : Type} {le : α → α → Prop} (anti : ∀ a b, le a b → le b a → a = b) : ∀ {xs ys : List α}, xs.Perm ys → xs.Pairwise le → ys.Pairwise le → xs = ys
  | [], ys, h, _, _ => (List.nil_perm.mp h).symm
  | x :: xs, [], h, _, _ => absurd (List.perm_nil.mp h) (List.cons_ne_nil _ _)
  | x :: xs, y :: ys, h, h1, h2 => by
    obtain ⟨a1, a2⟩ := List.pairwise_cons.mp h1
    obtain ⟨b1, b2⟩ := List.pairwise_cons.mp h2
    have e : x = y := by
      have hx : x ∈ y :: ys := h.subset List.mem_cons_self
      have hy : y ∈ x :: xs := h.symm.subset List.mem_cons_self
      rcases List.mem_cons.mp hx with e | hx
      · exact e
      · rcases List.mem_cons.mp hy with e | hy
        · exact e.symm
        · exact anti _ _ (a1 y hy) (b1 x hx)
    subst e
    rw [perm_unique anti (List.Perm.cons_inv h) a2 b2]
def leS (a b : Str) : Prop := ¬ b.cps.toList < a.cps.toList
theorem leS_anti (a b : Str) (h1 : leS a b) (h2 : leS b a) : a = b := by
  have : a.cps.toList = b.cps.toList := List.le_antisymm (show ¬ _ from h1) (show ¬ _ from h2)
  exact Str.ext' (Array.toList_inj.mp this)
theorem leS_trans {a b c : Str} (h1 : leS a b) (h2 : leS b c) : leS a c := List.le_trans (show ¬ _ from h1) (show ¬ _ from h2)
theorem rising_pairwise : ∀ (l : List Str) (p : Str), risingS p l = true → (p :: l).Pairwise leS
  | [], p, _ => List.pairwise_singleton _ _
  | x :: r, p, h => by
    have h' : (!ltCps x.cps.toList p.cps.toList && risingS x r) = true := h
    obtain ⟨h1, h2⟩ := Bool.and_eq_true_iff.mp h'
    have ih := rising_pairwise r x h2
    have hle : leS p x := by
      rw [ltCps_eq] at h1
      intro hlt
      rw [decide_eq_true hlt] at h1
      cases h1
    refine List.pairwise_cons.mpr ⟨fun y hy => ?_, ih⟩
    rcases List.mem_cons.mp hy with e | hy
    · rw [e]
      exact hle
    · exact leS_trans hle ((List.pairwise_cons.mp ih).1 y hy)
theorem sorted_pairwise {l : List Str} (h : sortedS l = true) : l.Pairwise leS := by
  cases l with
  | nil => exact List.Pairwise.nil
  | cons x r => exact rising_pairwise r x h
/-! ### the same entries -/
theorem ks_perm {A B : NI} (h : A.Perm B) : (ks A).Perm (ks B) := h.map _
theorem get?_perm {A B : NI} (h : A.Perm B) (ha : (ks A).Nodup) (x : Str) : get? A x = get? B x := by
  have hb : (ks B).Nodup := (ks_perm h).nodup_iff.mp ha
  cases e : get? A x with
  | none =>
    refine (get?_none.mpr fun hm => (get?_none.mp e) ((ks_perm h).mem_iff.mpr hm)).symm
  | some i => exact (get?_of hb (h.mem_iff.mp (get?_mem e))).symm
theorem get0_perm {A B : NI} (h : A.Perm B) (ha : (ks A).Nodup) (x : Str) : get0 A x = get0 B x := by
  unfold get0
  rw [get?_perm h ha]
def noZ (A : NI) : Prop := ∀ p ∈ A, p.2 ≠ 0
theorem nz_noZ (A : NI) : noZ (nz A) := fun p hp => by simpa using (List.mem_filter.mp hp).2
theorem entry_iff {A : NI} (ha : (ks A).Nodup) (za : noZ A) (p : Str × Int) : p ∈ A ↔ p.2 ≠ 0 ∧ get0 A p.1 = p.2 := by
  constructor
  · intro h
    refine ⟨za p h, ?_⟩
    unfold get0
    rw [get?_of ha (show (p.1, p.2) ∈ A from h)]
    rfl
  · rintro ⟨h1, h2⟩
    unfold get0 at h2
    cases e : get? A p.1 with
    | none => rw [e] at h2; exact absurd h2.symm h1
    | some i =>
      rw [e] at h2
      have e2 : i = p.2 := h2
      subst e2
      exact get?_mem e
theorem nodup_of_ks : ∀ {A : NI}, (ks A).Nodup → A.Nodup
  | [], _ => List.nodup_nil
  | p :: r, h => by
    obtain ⟨h1, h2⟩ := List.nodup_cons.mp (show (p.1 :: ks r).Nodup from h)
    exact List.nodup_cons.mpr ⟨fun hm => h1 (List.mem_map.mpr ⟨p, hm, rfl⟩), nodup_of_ks h2⟩
theorem perm_of_get0 {A B : NI} (ha : (ks A).Nodup) (hb : (ks B).Nodup) (za : noZ A) (zb : noZ B) (h : ∀ x, get0 A x = get0 B x) : A.Perm B := by
  have na : A.Nodup := nodup_of_ks ha
  have nb : B.Nodup := nodup_of_ks hb
  refine nodup_perm na nb fun p => ?_
  rw [entry_iff ha za, entry_iff hb zb, h]
theorem sum_nz : ∀ A : NI, ((nz A).map (·.2)).sum = (A.map (·.2)).sum
  | [] => rfl
  | p :: r => by
    have ih := sum_nz r
    by_cases h : p.2 = 0
    · have : nz (p :: r) = nz r := List.filter_cons_of_neg (by simpa using h)
      rw [this, ih, List.map_cons, List.sum_cons, h, Int.zero_add]
    · have : nz (p :: r) = p :: nz r := List.filter_cons_of_pos (by simpa using h)
      rw [this, List.map_cons, List.sum_cons, ih, List.map_cons, List.sum_cons]
theorem sum_perm {A B : List Int} (h : A.Perm B) : A.sum = B.sum := by
  induction h with
  | nil => rfl
  | cons x _ ih => rw [List.sum_cons, List.sum_cons, ih]
  | swap x y l => rw [List.sum_cons, List.sum_cons, List.sum_cons, List.sum_cons]; omega
  | trans _ _ h1 h2 => exact h1.trans h2
end Sl
/-! ## SlLcp -/
set_option Elab.async false
set_option linter.all false
set_option maxRecDepth 100000
set_option maxHeartbeats 4000000
namespace Sl
open PySem PySem.Spec PyProof.Rows L2
/-! [(x, e) for x in names if ..] -/
def PairsL (H : Hp) (D : Addr) (A : NI) : Prop := ∃ ts : List Addr, H D = some (.lst (ts.map V.ref)) ∧ Paired (fun (t : Addr) (q : Str × Int) => H t = some (.tup [.str q.1, .int q.2])) ts A
theorem paired_kvi {H : Hp} {K : PySem.W.Frag} : ∀ {ts : List Addr} {A : NI}, Paired (fun (t : Addr) (q : Str × Int) => H t = some (.tup [.str q.1, .int q.2])) ts A → Paired (fun p kv => SqT K H p [kV kv.1, kv.2]) ts (A.map kvi)
  | _, _, .nil => .nil
  | _, _, .cons r t => .cons (SqT.of r) (paired_kvi t)
theorem paired_len {α β : Type} {R : α → β → Prop} : ∀ {xs : List α} {ys : List β}, Paired R xs ys → xs.length = ys.length
  | _, _, .nil => rfl
  | _, _, .cons _ t => congrArg Nat.succ (paired_len t)
theorem lcp_of {K : PySem.W.Frag} {σ : L2.St} {H1 : Hp} {l p D : Addr} {ys : List Str} {m : Nat} {tt : TT} {tv : TE} {Qd : Hp → Prop} {S : Nat → Hp → Prop} {good : Str → Int → Prop} {b : Str → Bool}
    (hm : m < σ.length) (hl : SqL K H1 l (ys.map V.str)) (nl : l ≠ p) (hlen : ys.length ≤ 100) (hSe : ∀ n H, S n H → ∃ o, H p = some o) (hS0 : S 0 H1) (hSu : ∀ n H q o, q ≠ p → S n H → S n (upd H q o)) (hSm : ∀ n H, S n H → S (n + 1) H)
    (ht : ∀ x ∈ ys, ∀ (i : Nat) (H' : Hp) (Q' : Bool → Hp → Prop), S i H' → Keep p H1 H' → Q' (b x) H' → tt ((wipe σ [m]).set m (some (.str x))) H' Q')
    (hv : ∀ x ∈ ys, ∀ (i : Nat) (H' : Hp) (Q' : VK), i < ys.length → S i H' → Keep p H1 H' → (∀ (v : Int) (H'' : Hp), good x v → S (i + 1) H'' → Keep p H' H'' → Q' (.int v) H'') → tv ((wipe σ [m]).set m (some (.str x))) H' Q')
    (hD : H1 D = none) (k : ∀ (A : NI) (H' : Hp), Keep p H1 H' → S ys.length H' → ks A = ys.filter b → (∀ q ∈ A, good q.1 q.2) → PairsL H' D A → Qd H') :
    ∃ W : Nat → Nat → Hp → Prop, (∃ m, W 0 m (upd H1 D (.lst []))) ∧ ∀ i m' H, W i m' H → ((Itl K l).stop i H ∧ Qd H) ∨ ((Itl K l).go i H ∧ ∃ Nx : Hp → Prop, (∀ H', Nx H' → ∃ m'', m'' < m' ∧ W (i + 1) m'' H') ∧ ∀ x H', (Itl K l).yld i H x H' → gName m x (wipe σ [m]) H' fun σ2 H2 => wipe σ2 [m] = wipe σ [m] ∧ tt σ2 H2 fun c H3 =>
        if c = true then tTup (tCons (tVar m) (tCons tv tNil)) σ2 H3 fun y H4 => ∃ acc, H4 D = some (.lst acc) ∧ acc.length < sizeLine ∧ Nx (upd H4 D (.lst (acc ++ [y]))) else Nx H3) := by
  obtain ⟨po, hpo⟩ := hSe _ _ hS0
  have nD : D ≠ p := fun e => by rw [e, hpo] at hD; cases hD
  refine lc_list (K := K) (a := l) (xs := ys.map V.str) (Qd := Qd) (fun i H' => S i H' ∧ Keep p H1 H' ∧ ∃ A : NI, ks A = (ys.take i).filter b ∧ (∀ q ∈ A, good q.1 q.2) ∧ ∃ ts : List Addr, H' D = some (.lst (ts.map V.ref)) ∧ Paired (fun (t : Addr) (q : Str × Int) => t ≠ p ∧ H' t = some (.tup [.str q.1, .int q.2])) ts A) ⟨hSu _ _ _ _ nD hS0, Keep.new hD, [], rfl, fun _ h => absurd h List.not_mem_nil, [], upd_same, .nil⟩ (fun i H' _ ⟨_, kp, _⟩ => kp.seq nl hl) ?_ ?_
  · intro i y H' hy ⟨hS, kp, A, hA, hg, ts, hd, hP⟩
    rw [List.getElem?_map] at hy
    obtain ⟨x, ex, ey⟩ := Option.map_eq_some_iff.mp hy
    subst ey
    have hx := List.mem_of_getElem? ex
    have hi : i < ys.length := (List.getElem?_eq_some_iff.mp ex).1
    have wm : m < (wipe σ [m]).length := by rw [wipe_length]; exact hm
    refine ⟨?_, ?_⟩
    · show ((σ.set m none).set m (some (V.str x))).set m none = σ.set m none
      rw [List.set_set, List.set_set]
    refine ht x hx i H' _ hS kp ?_
    have lA : A.length ≤ i := by
      have e1 : (ks A).length = A.length := by unfold ks; rw [List.length_map]
      rw [← e1, hA]
      have := List.length_filter_le b (ys.take i)
      rw [List.length_take] at this
      omega
    cases hb : b x with
    | false =>
      refine iteF ⟨hSm _ _ hS, kp, A, ?_, hg, ts, hd, hP⟩
      rw [hA, List.take_succ, ex, List.filter_append]
      show _ = _ ++ ([x].filter b)
      rw [List.filter_cons_of_neg (by simp [hb]), List.filter_nil, List.append_nil]
    | true =>
      refine iteT ⟨.str x, by rw [List.getElem?_set_self wm], ?_⟩
      refine hv x hx i H' _ hi hS kp fun v H'' hgv hS2 kp2 => ⟨(by show 2 ≤ sizeLine; decide), fun t ht => ?_⟩
      have nDt : ∀ {H2 : Hp}, Keep p H' H2 → H2 D = some (.lst (ts.map V.ref)) := fun kq => kq _ _ nD hd
      have hd2 := nDt kp2
      have nt : t ≠ D := fun e => by rw [e, hd2] at ht; cases ht
      have htp : t ≠ p := fun e => by
        obtain ⟨o, ho⟩ := hSe _ _ hS2
        rw [e, ho] at ht
        cases ht
      refine ⟨_, by rw [upd_ne nt.symm]; exact hd2, ?_, ?_⟩
      · rw [List.length_map, paired_len hP, sizeLine_eq]
        omega
      · refine ⟨hSu _ _ _ _ nD (hSu _ _ _ _ htp hS2), fun c o n e => ?_, A ++ [(x, v)], ?_, ?_, ts ++ [t], ?_, ?_⟩
        · have ncD : c ≠ D := fun e2 => by rw [e2, hD] at e; cases e
          have e3 := kp2 _ _ n (kp _ _ n e)
          rw [upd_ne ncD, upd_ne (ne_of_none e3 ht)]
          exact e3
        · unfold ks at hA ⊢
          rw [List.map_append, hA, List.take_succ, ex, List.filter_append]
          show _ = _ ++ ([x].filter b)
          rw [List.filter_cons_of_pos hb, List.filter_nil]
          rfl
        · intro q hq
          rcases List.mem_append.mp hq with h | h
          · exact hg q h
          · rw [List.mem_singleton.mp h]
            exact hgv
        · rw [upd_same, List.map_append]
          rfl
        · have keepT : ∀ (t' : Addr) (q : Str × Int), (t' ≠ p ∧ H' t' = some (.tup [.str q.1, .int q.2])) → (t' ≠ p ∧ (upd (upd H'' t (.tup [.str x, .int v])) D (.lst (ts.map V.ref ++ [V.ref t]))) t' = some (.tup [.str q.1, .int q.2])) := by
            intro t' q r
            have h1 := kp2 _ _ r.1 r.2
            have h2 : t' ≠ D := fun e => by rw [e, hd2] at h1; cases h1
            refine ⟨r.1, ?_⟩
            rw [upd_ne h2, upd_ne (ne_of_none h1 ht)]
            exact h1
          refine Paired.snoc (paired_same keepT hP) ⟨htp, ?_⟩
          rw [upd_ne nt, upd_same]
  · intro H' ⟨hS, kp, A, hA, hg, ts, hd, hP⟩
    rw [List.length_map] at hS hA
    rw [List.take_length] at hA
    exact k A H' kp hS hA hg ⟨ts, hd, paired_same (fun _ _ r => r.2) hP⟩
end Sl
/-! ## LawA -/
set_option Elab.async false
set_option linter.all false
set_option maxRecDepth 100000
set_option maxHeartbeats 8000000
namespace Sl
open PySem PySem.Spec PyProof.Rows L2
def CPowB (i j : Int) : Prop := 0 ≤ j ∧ (Builtin.Int.intBits i : Int) * j ≤ 2 ^ 27
theorem op_powB {X : Cx} : OpR X (binaryOp .Pow) (rI CPowB fun i j => .int (i ^ j.toNat)) := opI fun _ _ _ _ _ _ _ hc q => pow_int hc.1 hc.2 q
theorem cutV_take (xs : List Str) (k : Nat) : cutV (xs.map V.str) none (some ((k : Nat) : Int)) = (xs.take k).map V.str := by
  unfold cutV
  rw [HT.sIx_nat, HT.sIx_none, List.drop_zero, Nat.sub_zero, List.length_map, List.map_take]
  rcases Nat.le_total k xs.length with h | h
  · rw [Nat.min_eq_left h]
  · rw [Nat.min_eq_right h, List.take_of_length_le (by rw [List.length_map]; exact Nat.le_refl _), List.take_of_length_le (by rw [List.length_map]; exact h)]
theorem cutV_drop (xs : List Str) (k : Nat) : cutV (xs.map V.str) (some ((k : Nat) : Int)) none = (xs.drop k).map V.str := by
  unfold cutV
  rw [HT.sIx_nat, HT.sIx_none, List.length_map, List.map_drop]
  rcases Nat.le_total k xs.length with h | h
  · rw [Nat.min_eq_left h]
    exact List.take_of_length_le (by rw [List.length_drop, List.length_map]; exact Nat.le_refl _)
  · rw [Nat.min_eq_right h, List.drop_of_length_le (by rw [List.length_map]; exact Nat.le_refl _), List.drop_of_length_le (by rw [List.length_map]; exact h)]
    exact List.take_nil
theorem SrcAt.upd_ne' {H : Hp} {p q : Addr} {n : Nat} {o : HO} (h : SrcAt H p n) (ne : q ≠ p) : SrcAt (L2.upd H q o) p n := by
  obtain ⟨g, s, c, e, a⟩ := h
  exact ⟨g, s, c, by rw [upd_ne ne.symm]; exact e, a⟩
end Sl
namespace Lw
open PySem PySem.Spec PyProof.Rows L2 Sl
section
variable {P : Program} {w : World} {K : PySem.W.Frag} {mg : Str → Option Value} {base : Heap} {f : Addr} {fd : FuncData}
def sp_big : Sp := fun vs H Q _ => ∃ (p : Addr) (n : Nat), vs = [.ref p] ∧ SrcAt H p n ∧ n ≤ 97000 ∧ ∀ (i : Int) (H' : Hp), 0 ≤ i → SrcAt H' p (n + 2) → Keep p H H' → Q (.int i) H'
theorem ok_big (F : FnP K "_law_big" s_l_big [] f fd) (D : Cal P w K mg base 1 "_law_draw" [] sp_draw) : FnOk P w K mg base CX0 2 f fd ["_law_source_here"] sp_big := by
  refine F.ok sc_l_big (fun vs H Q E h => ?_) (fun cdv A outer s H vs Q E hr h => ?_)
  · obtain ⟨p, n, rfl, _⟩ := h
    rfl
  · obtain ⟨p, n, rfl, hp, hn, k⟩ := h
    refine ⟨_, PSs.nox (pss_one (ps_ret (pe_ix ix_list (pe_lst (pa_cons pe_int (pa_cons pe_int (pa_cons pe_int (pa_cons pe_int (pa_cons pe_int (pa_cons (pe_op op_add (pe_op op_powB pe_int pe_int) (pe_cal D hr (pa_cons (pv 0) (pa_cons pe_int pa_nil)))) pa_nil)))))))
      (pe_cal D hr (pa_cons (pv 0) (pa_cons pe_int pa_nil))) (fun _ _ => rfl)))), ?_⟩
    refine ⟨_, _, rfl, rfl, ⟨by decide, by decide +kernel⟩, ?_⟩
    refine draw_of rfl hp (by omega) (by decide) (by decide +kernel) fun j1 H1 j10 j11 hp1 k1 => ?_
    refine ⟨_, _, rfl, rfl, (by show 6 ≤ sizeLine; decide), fun a ha => ?_⟩
    obtain ⟨po, hpo⟩ := hp1.there
    have na : a ≠ p := fun e => by rw [e, hpo] at ha; cases ha
    refine draw_of rfl (hp1.new ha) (by omega) (by decide) (by decide +kernel) fun j2 H2 j20 j21 hp2 k2 => ?_
    have hbig : (0 : Int) ≤ (10 : Int) ^ (30 : Int).toNat := by decide +kernel
    obtain ⟨v, hv, mv⟩ := at_in (xs := [V.int 0, .int 0, .int 1, .int 2, .int 7, .int ((10 : Int) ^ (30 : Int).toNat + j1)]) j20 j21
    refine ⟨a, _, j2, v, rfl, rfl, SqL.of (k2 _ _ na upd_same), hv, ?_⟩
    have hi : ∃ i : Int, v = .int i ∧ 0 ≤ i := by
      simp only [List.mem_cons, List.not_mem_nil, or_false] at mv
      rcases mv with h | h | h | h | h | h <;> subst h
      · exact ⟨0, rfl, by decide⟩
      · exact ⟨0, rfl, by decide⟩
      · exact ⟨1, rfl, by decide⟩
      · exact ⟨2, rfl, by decide⟩
      · exact ⟨7, rfl, by decide⟩
      · exact ⟨_, rfl, Int.add_nonneg hbig j10⟩
    obtain ⟨i, rfl, hi0⟩ := hi
    exact k i H2 hi0 hp2 ((k1.trans (Keep.new ha)).trans k2)
end
end Lw
/-! ## LawB -/
set_option Elab.async false
set_option linter.all false
set_option maxRecDepth 100000
set_option maxHeartbeats 8000000
namespace Lw
open PySem PySem.Spec PyProof.Rows L2 Sl
section
variable {P : Program} {w : World} {K : PySem.W.Frag} {mg : Str → Option Value} {base : Heap} {f : Addr} {fd : FuncData}
def sp_lists (K : PySem.W.Frag) : Sp := fun vs H Q _ => ∃ (p q : Addr) (xs : List Str) (n : Nat), vs = [.ref p, .ref q] ∧ SrcAt H p n ∧ n ≤ 90000 ∧ SqL K H q (xs.map V.str) ∧ q ≠ p ∧ xs.length = 6 ∧ xs.Nodup ∧
  ∀ (t d1 d2 : Addr) (A B : NI) (H' : Hp), H d1 = none → H d2 = none → d1 ≠ d2 → Keep p H H' → SrcAt H' p (n + 100) → H' t = some (.tup [.ref d1, .ref d2]) → H' d1 = some (dI A) → H' d2 = some (dI B) → ks A = xs.take 4 → ks B = xs.drop 3 → (∀ q ∈ A, 0 ≤ q.2) → Q (.ref t) H'
theorem filt_true (xs : List Str) : (xs.filter fun _ => true) = xs := List.filter_eq_self.mpr fun _ _ => rfl
theorem ok_lists (F : FnP K "_law_lists" s_l_lists [] f fd) (D : Cal P w K mg base 1 "_law_draw" [] sp_draw) (B : Cal P w K mg base 2 "_law_big" [] sp_big) (mD : mg "dict" = none) : FnOk P w K mg base CX0 3 f fd ["_law_source_here", "_law_names_here"] (sp_lists K) := by
  refine F.ok sc_l_lists (fun vs H Q E h => ?_) (fun cdv A outer s H vs Q E hr h => ?_)
  · obtain ⟨p, q, xs, n, rfl, _⟩ := h
    rfl
  · obtain ⟨p, q, xs, n, rfl, hp, hn, hq, ne, h6, hnd, k⟩ := h
    have nd := sc_l_lists.nd
    have hr1 := hr.mono (show 1 ≤ 2 by decide)
    refine ⟨_, PSs.nox (pss_cons (ps_set (i := 2) nd rfl (.inl rfl) (pe_callTy (call_dictP rfl) (by rfl) mD (by decide +kernel) (pa_cons (pe_lc (own := [("_law_name_here", 3)]) (g := gName 3) (tt := tYes) rfl nd (pi_list (pe_slice sl_list (pv 1) po_none (po_some pe_int)))
          (blkOk_by (N := ["_law_source_here", "_law_names_here", "_law_numbers", "_law_name_here"]) (sc := defScope s_l_lists) (by decide +kernel)) (fun _ _ _ _ _ => pg_name (i := 3) nd rfl (Or.inl rfl)) (fun _ _ _ _ _ => pts_nil)
          (fun _ _ _ _ _ => pe_tup (pa_cons (pv 3) (pa_cons (pe_cal B hr (pa_cons (pv 0) pa_nil)) pa_nil)))) pa_nil)))
      (pss_one (ps_ret (pe_tup (pa_cons (pv 2) (pa_cons (pe_callTy (call_dictP rfl) (by rfl) mD (by decide +kernel) (pa_cons (pe_lc (own := [("_law_name_here", 3)]) (g := gName 3) (tt := tYes) (te := tTup (tCons (tVar 3) (tCons (tOp (rI0 fun i j => .int (i - j)) (tCall sp_big [] E0 (tCons (tVar 0) tNil)) (tOp (rIxL K) (tLst (tCons (tC (.int 0)) (tCons (tC (.int 5)) (tCons (tOp (rI CPowB fun i j => .int (i ^ j.toNat)) (tC (.int 10)) (tC (.int 30))) tNil)))) (tCall sp_draw [] E0 (tCons (tVar 0) (tCons (tC (.int 3)) tNil))))) tNil))) rfl nd (pi_list (pe_slice sl_list (pv 1) (po_some pe_int) po_none))
          (blkOk_by (N := ["_law_source_here", "_law_names_here", "_law_numbers", "_law_name_here"]) (sc := defScope s_l_lists) (by decide +kernel)) (fun _ _ _ _ _ => pg_name (i := 3) nd rfl (Or.inl rfl)) (fun _ _ _ _ _ => pts_nil)
          (fun _ _ _ _ _ => pe_tup (pa_cons (pv 3) (pa_cons (pe_op op_sub (pe_cal B hr (pa_cons (pv 0) pa_nil)) (pe_ix ix_list (pe_lst (pa_cons pe_int (pa_cons pe_int (pa_cons (pe_op op_powB pe_int pe_int) pa_nil)))) (pe_cal D hr1 (pa_cons (pv 0) (pa_cons pe_int pa_nil))) (fun _ _ => rfl))) pa_nil)))) pa_nil)) pa_nil)))))), ?_⟩
    show tSeq (tAsg (tCB _ (tCons (tLc (iList K (tSl (rSlL K) (tVar 1) tNoPart (tPart (tC (.int ((4 : Nat) : Int)))))) (gName 3) tYes (tTup (tCons (tVar 3) (tCons (tCall sp_big [] E0 (tCons (tVar 0) tNil)) tNil))) [3]) tNil)) (gName 2)) _ _ [some (V.ref p), some (V.ref q), none, none] H
    refine asg_of ⟨_, rfl, _, rfl, q, _, rfl, hq, fun a ha => ?_⟩
    rw [cutV_take]
    refine ⟨a, rfl, ⟨_, SqL.of upd_same⟩, fun D1 hD1 => ?_⟩
    obtain ⟨po, hpo⟩ := hp.there
    have na : a ≠ p := fun e => by rw [e, hpo] at ha; cases ha
    refine lcp_of (K := K) (σ := [some (V.ref p), some (V.ref q), none, none]) (p := p) (S := fun i H' => SrcAt H' p (n + 2 * i)) (good := fun _ v => 0 ≤ v) (b := fun _ => true) (by show 3 < 4; decide) (SqL.of upd_same) na (by rw [List.length_take]; omega) (fun _ _ h => h.there) (hp.new ha) (fun _ _ _ _ ne h => h.upd_ne' ne) (fun _ _ h => h.mono (by omega))
      (fun _ _ _ _ _ _ _ h => yes_of h) (fun x hx i H' Q' hi hS kp kk => ?_) hD1 ?_
    · rw [List.length_take] at hi
      exact ⟨_, rfl, p, n + 2 * i, rfl, hS, by omega, fun v H'' hv hS2 kp2 => kk v H'' hv (hS2.mono (by omega)) kp2⟩
    intro A1 H1 kp1 hS1 hk1 hg1 ⟨ts, hd, hP⟩
    rw [filt_true] at hk1
    have nd1 : (ks A1).Nodup := by rw [hk1]; exact List.Nodup.sublist (List.take_sublist _ _) hnd
    have hS1' := hS1.mono (show n + 2 * (xs.take 4).length ≤ n + 12 by rw [List.length_take]; omega)
    refine ⟨D1, ts, A1.map kvi, rfl, SqL.of hd, paired_kvi hP, fun d1 hd1 => ?_⟩
    rw [mergeK_nil nd1]
    have kH1 : Keep p H H1 := (Keep.new ha).trans kp1
    have hp1 := hS1'.new (o := dI A1) hd1
    obtain ⟨po1, hpo1⟩ := hS1'.there
    have nd1p : d1 ≠ p := fun e => by rw [e, hpo1] at hd1; cases hd1
    have fr1 : H d1 = none := by
      cases e : H d1 with
      | none => rfl
      | some o => rw [kH1 _ _ nd1p e] at hd1; cases hd1
    have kH2 : Keep p H (upd H1 d1 (dI A1)) := kH1.trans (Keep.new hd1)
    have ed1 : (upd H1 d1 (dI A1)) d1 = some (dI A1) := upd_same
    show tRet (tTup (tCons (tVar 2) (tCons (tCB _ (tCons (tLc (iList K (tSl (rSlL K) (tVar 1) (tPart (tC (.int ((3 : Nat) : Int)))) tNoPart)) (gName 3) tYes _ [3]) tNil)) tNil))) _ [some (V.ref p), some (V.ref q), some (V.ref d1), none] (upd H1 d1 (dI A1))
    generalize upd H1 d1 (dI A1) = H2 at hp1 kH2 ed1
    have hq2 := kH2.seq ne hq
    refine ⟨_, rfl, _, rfl, _, rfl, q, _, rfl, hq2, fun a2 ha2 => ?_⟩
    rw [cutV_drop]
    refine ⟨a2, rfl, ⟨_, SqL.of upd_same⟩, fun D2 hD2 => ?_⟩
    obtain ⟨po2, hpo2⟩ := hp1.there
    have na2 : a2 ≠ p := fun e => by rw [e, hpo2] at ha2; cases ha2
    refine lcp_of (K := K) (σ := [some (V.ref p), some (V.ref q), some (V.ref d1), none]) (p := p) (S := fun i H' => SrcAt H' p (n + 12 + 3 * i)) (good := fun _ _ => True) (b := fun _ => true) (by show 3 < 4; decide) (SqL.of upd_same) na2 (by rw [List.length_drop]; omega) (fun _ _ h => h.there) (hp1.new ha2) (fun _ _ _ _ ne h => h.upd_ne' ne) (fun _ _ h => h.mono (by omega))
      (fun _ _ _ _ _ _ _ h => yes_of h) (fun x hx i H' Q' hi hS kp kk => ?_) hD2 ?_
    · rw [List.length_drop] at hi
      refine ⟨_, rfl, p, n + 12 + 3 * i, rfl, hS, by omega, fun v H'' hv hS2 kp2 => ?_⟩
      refine ⟨_, _, rfl, rfl, ⟨by decide, by decide +kernel⟩, (by show 3 ≤ sizeLine; decide), fun c hc => ?_⟩
      obtain ⟨po3, hpo3⟩ := hS2.there
      have nc : c ≠ p := fun e => by rw [e, hpo3] at hc; cases hc
      refine draw_of rfl (hS2.new hc) (by omega) (by decide) (by decide +kernel) fun j H3 j0 j1 hp3 k3 => ?_
      obtain ⟨u, hu, mu⟩ := at_in (xs := [V.int 0, .int 5, .int ((10 : Int) ^ (30 : Int).toNat)]) j0 j1
      refine ⟨c, _, j, u, rfl, rfl, SqL.of (k3 _ _ nc upd_same), hu, ?_⟩
      have hi2 : ∃ i : Int, u = .int i := by
        simp only [List.mem_cons, List.not_mem_nil, or_false] at mu
        rcases mu with h | h | h <;> exact ⟨_, h⟩
      obtain ⟨i2, rfl⟩ := hi2
      exact ⟨_, _, rfl, rfl, kk _ H3 trivial (hp3.mono (by omega)) ((kp2.trans (Keep.new hc)).trans k3)⟩
    intro B1 H3 kp3 hS3 hk3 _ ⟨ts3, hd3, hP3⟩
    rw [filt_true] at hk3
    have nd3 : (ks B1).Nodup := by rw [hk3]; exact List.Nodup.sublist (List.drop_sublist _ _) hnd
    have hS3' := hS3.mono (show n + 12 + 3 * (xs.drop 3).length ≤ n + 100 by rw [List.length_drop]; omega)
    refine ⟨D2, ts3, B1.map kvi, rfl, SqL.of hd3, paired_kvi hP3, fun d2 hd2 => ?_⟩
    rw [mergeK_nil nd3]
    obtain ⟨po4, hpo4⟩ := hS3'.there
    have nd2p : d2 ≠ p := fun e => by rw [e, hpo4] at hd2; cases hd2
    have kH3 : Keep p H2 H3 := (Keep.new ha2).trans kp3
    have kHH3 := kH2.trans kH3
    have fr2 : H d2 = none := by
      cases e : H d2 with
      | none => rfl
      | some o => rw [kHH3 _ _ nd2p e] at hd2; cases hd2
    have ed13 := kH3 _ _ nd1p ed1
    have n12 : d1 ≠ d2 := fun e => by rw [e, hd2] at ed13; cases ed13
    refine ⟨(by show 2 ≤ sizeLine; decide), fun t ht => ?_⟩
    exact k t d1 d2 A1 B1 _ fr1 fr2 n12 ((kHH3.trans (Keep.new hd2)).trans (Keep.new ht)) ((hS3'.new hd2).new ht) upd_same (same_new ht _ _ (same_new hd2 _ _ ed13)) (same_new ht _ _ upd_same) hk1 hk3 hg1
end
end Lw
/-! ## SlEq -/
set_option Elab.async false
set_option linter.all false
set_option maxRecDepth 100000
set_option maxHeartbeats 4000000
namespace Sl
open PySem PySem.Spec PyProof.Rows L2
/-- flat, or an object (then the very same one is meant) -/
def tame : V → Bool
  | .ref _ => true
  | v => flatB v
/-- xs != ys, two lists of the same tame items -/
def rNeS (K : PySem.W.Frag) : R2 := fun x y H Q => ∃ (a b : Addr) (xs : List V), x = .ref a ∧ y = .ref b ∧ SqL K H a xs ∧ SqL K H b xs ∧ (xs.all tame) = true ∧ Q (.bl false) H
theorem tame_same {A : Around} {s : Shared} {v : V} {u u' : Value} (r : RelV v u) (r' : RelV v u') (f : tame v = true) : SeqAt.EqAt A s u u' true := by
  cases v with
  | ref a =>
    cases (show u = Value.ref a from r)
    cases (show u' = Value.ref a from r')
    exact SeqAt.EqAt.same _
  | non => exact eqAt_same r r' rfl
  | bl b => exact eqAt_same r r' rfl
  | int i => exact eqAt_same r r' rfl
  | str z => exact eqAt_same r r' rfl
  | byt z => exact eqAt_same r r' rfl
  | flt z => cases f
  | ty z => cases f
theorem op_neS {X : Cx} (hu : X.A.units < cLine) : OpR X (compareOp .NotEq) (rNeS X.K) := by
  intro pins s σ H x y v u Q I rx ry h
  obtain ⟨a, b, xs, rfl, rfl, ha, hb, ht, q⟩ := h
  cases (show v = Value.ref a from rx)
  cases (show u = Value.ref b from ry)
  obtain ⟨us, r1, p1, _⟩ := I.list ha
  obtain ⟨ws, r2, p2, _⟩ := I.list hb
  have hsz : us.toArray.size = ws.toArray.size := by
    rw [List.size_toArray, List.size_toArray, ← r1.length, ← r2.length]
  have hall := List.all_eq_true.mp ht
  refine SeqAt.RcNeAt.lists (e := fun _ => true) p1.isList p2.isList hsz hu (fun j h1 h2 => ?_) X.prog X.w _ _ ?_
  · have j1 : j < xs.length := by
      rw [r1.length]
      simpa using h1
    obtain ⟨u1, e1, q1⟩ := r1.get (List.getElem?_eq_getElem j1)
    obtain ⟨u2, e2, q2⟩ := r2.get (List.getElem?_eq_getElem j1)
    have z := tame_same (A := X.A.in1) (s := s) q1 q2 (hall _ (List.getElem_mem j1))
    have k1 : us.toArray[j] = u1 := by
      have : us[j]? = some u1 := e1
      rw [List.getElem?_eq_getElem (by simpa using h1)] at this
      simpa using Option.some.inj this
    have k2 : ws.toArray[j] = u2 := by
      have : ws[j]? = some u2 := e2
      rw [List.getElem?_eq_getElem (by simpa using h2)] at this
      simpa using Option.some.inj this
    rw [k1, k2]
    exact z
  · rw [show ((List.range us.toArray.size).all fun _ => true) = true from List.all_eq_true.mpr fun _ _ => rfl]
    exact ⟨.bl false, H, I, rfl, q⟩
end Sl
/-! ## LawC -/
set_option Elab.async false
set_option linter.all false
set_option maxRecDepth 100000
set_option maxHeartbeats 8000000
namespace Sl
open PySem PySem.Spec PyProof.Rows L2
/-- a method of an own class that lets no exception out -/
structure CalM (P : Program) (w : World) (K : PySem.W.Frag) (mg : Str → Option Value) (base : Heap) (C : Addr) (k : Nat) (m : Str) (sp : Sp) : Prop where
  ex : ∃ (f : Addr) (fd : FuncData) (ps : List Str), Meth K C m f ∧ FnOk P w K mg base CX0 k f fd ps sp ∧ Binds K fd ps []
section
variable {X : Cx} {C : Addr} {k : Nat} {m : Str} {sp : Sp} {o e : Expr} {ta te : TE} {apos pos : Pos}
theorem pe_m0 (h : CalM X.prog X.w X.K X.mg X.base C k m sp) (c : Cls X.K C) (hr : Room k X.A) (he : PE X o ta)
    (ht : ∃ pl : Sem Bool, eval (.Call (.Attribute o m apos) [] [] pos) X.env = (do
      let ov ← eval o X.env
      standAt apos.atName
      let (f, first) ← holding [ov] (getMethod ov m pl)
      callWith pos f first (backTo pos (starEach [] X.env)) (backToKw pos (keywordEach [] X.env))) := by exact ⟨_, rfl⟩) : PE X (.Call (.Attribute o m apos) [] [] pos) (tMeth C m sp [] E0 ta tNil) := by
  obtain ⟨f, fd, ps, M, F, b⟩ := h.ex
  obtain ⟨pl, ht⟩ := ht
  exact pe_meth0 he c M F hr b .nil pass0 ht
theorem pe_m1 (h : CalM X.prog X.w X.K X.mg X.base C k m sp) (c : Cls X.K C) (hr : Room k X.A) (he : PE X o ta) (ha : PE X e te)
    (hst : starEach [e] X.env = (false, eval e X.env) :: starEach [] X.env := by rfl) (hpl : (backTo pos (starEach [] X.env)).any (·.1) = false := by rfl)
    (ht : ∃ pl : Sem Bool, eval (.Call (.Attribute o m apos) [e] [] pos) X.env = (do
      let ov ← eval o X.env
      standAt apos.atName
      let (f, first) ← holding [ov] (getMethod ov m pl)
      callWith pos f first (backTo pos (starEach [e] X.env)) (backToKw pos (keywordEach [] X.env))) := by exact ⟨_, rfl⟩) : PE X (.Call (.Attribute o m apos) [e] [] pos) (tMeth C m sp [] E0 ta (tCons te tNil)) := by
  obtain ⟨f, fd, ps, M, F, b⟩ := h.ex
  obtain ⟨pl, ht⟩ := ht
  exact pe_meth he c M F hr b .nil pass0 (pa_cons ha pa_nil hst) hst hpl ht
end
end Sl
namespace Lw
open PySem PySem.Spec PyProof.Rows L2 Sl
section
variable {P : Program} {w : World} {K : PySem.W.Frag} {mg : Str → Option Value} {base : Heap} {f : Addr} {fd : FuncData} {C : Addr}
/-- the same by name, none of them nought, the names in order -/
def LessOf (N L : NI) : Prop := (ks L).Perm (ks (nz N)) ∧ (ks L).Pairwise leS ∧ (∀ x, get0 L x = get0 N x) ∧ noZ L ∧ (ks L).Nodup
def sp_less : Sp := fun vs H Q _ => ∃ (d : Addr) (N : NI), vs = [.ref d] ∧ H d = some (dI N) ∧ (ks N).Nodup ∧ N.length ≤ 60 ∧
  ∀ (d' : Addr) (L : NI) (H' : Hp), H d' = none → Same H H' → H' d' = some (dI L) → LessOf N L → L.length ≤ 60 → Q (.ref d') H'
theorem ok_less (F : FnP K "_law_less" s_l_less [] f fd) (mD : mg "dict" = none) (mS : mg "sorted" = none) : FnOk P w K mg base CX0 1 f fd ["_law_numbers"] sp_less := by
  refine F.ok sc_l_less (fun vs H Q E h => ?_) (fun cdv A outer s H vs Q E hr h => ?_)
  · obtain ⟨d, N, rfl, _⟩ := h
    rfl
  · obtain ⟨d, N, rfl, hd, hnd, hl, k⟩ := h
    have nd := sc_l_less.nd
    have hu := hu_of hr
    refine ⟨_, PSs.nox (pss_one (ps_ret (pe_callTy (call_dictP rfl) (by rfl) mD (by decide +kernel) (pa_cons (pe_lc (own := [("_law_name_here", 1)]) (g := gName 1) rfl nd (pi_list (pe_callB (call_sortedD rfl) (by rfl) mS (by decide +kernel) (pa_cons (pv 0) pa_nil)))
        (blkOk_by (N := ["_law_numbers", "_law_name_here"]) (sc := defScope s_l_less) (by decide +kernel)) (fun _ _ _ _ _ => pg_name (i := 1) nd rfl (Or.inl rfl)) (fun _ _ _ _ _ => pts_one (pt_cmpR op_ne (pe_dget hu (pv 0) (pv 1) (fun _ _ => rfl)) pe_int (nomark _)))
        (fun _ _ _ _ _ => pe_tup (pa_cons (pv 1) (pa_cons (pe_dget hu (pv 0) (pv 1) (fun _ _ => rfl)) pa_nil)))) pa_nil)))), ?_⟩
    refine ⟨_, rfl, d, N.map kvi, ks N, rfl, .inl hd, keys_kvi N, (by unfold ks; rw [List.length_map]; omega), fun ys p pm so hp => ?_⟩
    refine ⟨p, rfl, ⟨_, SqL.of upd_same⟩, fun D hD => ?_⟩
    have np : p ≠ d := fun e => by rw [e, hd] at hp; cases hp
    have hd1 : (upd H p (.lst (ys.map V.str))) d = some (dI N) := by rw [upd_ne np.symm]; exact hd
    have ny : ys.Nodup := pm.nodup_iff.mpr hnd
    have ly : ys.length = N.length := by
      rw [pm.length_eq]
      unfold ks
      rw [List.length_map]
    have gt : ∀ x ∈ ys, get? N x = some (get0 N x) := fun x hx => by
      obtain ⟨q, hq, e⟩ := List.mem_map.mp (pm.mem_iff.mp hx)
      have := get?_of hnd (show (q.1, q.2) ∈ N from hq)
      unfold get0
      rw [← e, this]
      rfl
    refine lcp_of (K := K) (σ := [some (V.ref d), none]) (p := d) (S := fun _ H' => H' d = some (dI N)) (good := fun x v => v = get0 N x) (b := fun x => decide (get0 N x ≠ 0)) (by show 1 < 2; decide) (SqL.of upd_same) np (by omega) (fun _ _ h => ⟨_, h⟩) hd1 (fun _ H q o ne h => by rw [upd_ne ne.symm]; exact h) (fun _ _ h => h)
      (fun x hx i H' Q' hS kp q => ?_) (fun x hx i H' Q' hi hS kp kk => ?_) hD ?_
    · refine test_of ⟨_, rfl, _, rfl, d, .int (get0 N x), rfl, ?_, rfl, _, rfl, ?_⟩
      · have := DGet.k (k := .inr x) hS
        rw [valV_kvi, gt x hx] at this
        exact this
      · have e : (!decide (V.int (get0 N x) = V.int 0)) = decide (get0 N x ≠ 0) := by
          by_cases h : get0 N x = 0
          · rw [h]
            rfl
          · rw [decide_eq_true h, decide_eq_false (fun e => h (V.int.inj e))]
            rfl
        rw [e]
        exact q
    · refine ⟨_, rfl, _, rfl, d, .int (get0 N x), rfl, ?_, kk _ H' rfl hS (Keep.refl _ _)⟩
      have := DGet.k (k := .inr x) hS
      rw [valV_kvi, gt x hx] at this
      exact this
    intro A1 H1 kp1 hS1 hk1 hg1 ⟨ts, hdD, hP⟩
    have nA : (ks A1).Nodup := by rw [hk1]; exact List.Nodup.sublist List.filter_sublist ny
    refine ⟨D, ts, A1.map kvi, rfl, SqL.of hdD, paired_kvi hP, fun d' hd' => ?_⟩
    rw [mergeK_nil nA]
    have s1 : Same H H1 := fun c o e => by
      by_cases ec : c = d
      · subst ec
        rw [hd] at e
        rw [← Option.some.inj e]
        exact hS1
      · exact kp1 _ _ ec (same_new hp _ _ e)
    have fr : H d' = none := by
      cases e : H d' with
      | none => rfl
      | some o => rw [s1 _ _ e] at hd'; cases hd'
    have vals : ∀ q ∈ A1, q.2 = get0 N q.1 := hg1
    have mem : ∀ x, x ∈ ks A1 ↔ x ∈ ks N ∧ get0 N x ≠ 0 := fun x => by
      rw [hk1, List.mem_filter, pm.mem_iff]
      simp
    have g0 : ∀ x, get0 A1 x = get0 N x := fun x => by
      by_cases hx : x ∈ ks A1
      · obtain ⟨q, hq, e⟩ := List.mem_map.mp hx
        have := get?_of nA (show (q.1, q.2) ∈ A1 from hq)
        rw [← e]
        unfold get0
        rw [this]
        exact vals q hq
      · rw [get0_none hx]
        by_cases h0 : get0 N x = 0
        · exact h0.symm
        · exfalso
          refine hx ((mem x).mpr ⟨?_, h0⟩)
          by_cases hn : x ∈ ks N
          · exact hn
          · exact absurd (get0_none hn) h0
    have zA : noZ A1 := fun q hq => by
      rw [vals q hq]
      exact ((mem q.1).mp (List.mem_map.mpr ⟨q, hq, rfl⟩)).2
    have pmA : A1.Perm (nz N) := perm_of_get0 nA (nz_nodup hnd) zA (nz_noZ N) fun x => by rw [g0, get0_nz hnd]
    refine k d' A1 _ fr (s1.trans (same_new hd')) upd_same ⟨ks_perm pmA, ?_, g0, zA, nA⟩ ?_
    · rw [hk1]
      exact (sorted_pairwise so).filter _
    · have e1 : (ks A1).length = A1.length := by unfold ks; rw [List.length_map]
      rw [← e1, hk1]
      have := List.length_filter_le (fun x => decide (get0 N x ≠ 0)) ys
      omega
end
end Lw
/-! ## LawD -/
set_option Elab.async false
set_option linter.all false
set_option maxRecDepth 100000
set_option maxHeartbeats 8000000
namespace Lw
open PySem PySem.Spec PyProof.Rows L2 Sl
section
variable {P : Program} {w : World} {K : PySem.W.Frag} {mg : Str → Option Value} {base : Heap} {f : Addr} {fd : FuncData} {C : Addr}
/-- a table that shows these -/
def Shows (A N : NI) : Prop := A.Perm (nz N) ∧ (ks N).Nodup ∧ (∀ x ∈ ks N, nameB x = true) ∧ N.length ≤ 50 ∧ ("nobody" : Str) ∉ ks N
def sp_isright (C : Addr) : Sp := fun vs H Q _ => ∃ (t d e : Addr) (A B N M : NI), vs = [.ref t, .ref d, .ref e] ∧ TabAt H C t A B ∧ H d = some (dI N) ∧ H e = some (dI M) ∧ Shows A N ∧ Shows B M ∧ ∀ H', Same H H' → Q (.bl true) H'
structure Meths (P : Program) (w : World) (K : PySem.W.Frag) (mg : Str → Option Value) (base : Heap) (C : Addr) : Prop where
  rows : CalM P w K mg base C 2 "rows" (sp_rows K C true)
  worth : CalM P w K mg base C 2 "worth" (sp_rows K C false)
  rk : CalM P w K mg base C 1 "row_kinds" (sp_kinds C true)
  cn : CalM P w K mg base C 1 "counter_names" (sp_kinds C false)
  size : CalM P w K mg base C 1 "size" (sp_size C)
abbrev rightN : List Str := ["_law_table", "_law_numbers", "_law_worths", "_law_odd", "_law_name_here"]
theorem any_false (n : Nat) : (List.replicate n false).any id = false := by
  induction n with
  | zero => rfl
  | succ n ih =>
    rw [List.replicate_succ, List.any_cons, ih]
    rfl
theorem strs_tame (xs : List Str) : (xs.map V.str).all Sl.tame = true := by
  rw [List.all_map]
  exact List.all_eq_true.mpr fun _ _ => rfl
/-- the kinds of a table are the names of what is less -/
theorem kinds_less {A N L : NI} {ys : List Str} (hs : Shows A N) (hL : LessOf N L) (pm : ys.Perm (ks A)) (so : sortedS ys = true) : ys = ks L :=
  perm_unique leS_anti (pm.trans ((ks_perm hs.1).trans hL.1.symm)) (sorted_pairwise so) hL.2.1
theorem anyrows_of {σ : L2.St} {H : Hp} {Q : VK} {m : Str} {first : Bool} {t d : Addr} {A B N : NI} {j : Nat} (h0 : σ[0]? = some (some (.ref t))) (hj : σ[j]? = some (some (.ref d))) (hj4 : j ≠ 4) (h4 : 4 < σ.length) (ht : TabR H C t A B) (hd : H d = some (dI N)) (hnm : m = "rows" ∨ m = "worth") (hs : Shows (if first then A else B) N)
    (k : ∀ (D : Addr) (H' : Hp), Same H H' → H' D = some (.lst ((List.replicate N.length false).map V.bl)) → Q (.ref D) H') :
    tLockE (tLc (iKeys (tVar j)) (gName 4) tYes (tOp rNe (tMeth C m (sp_rows K C first) [] E0 (tVar 0) (tCons (tVar 4) tNil)) (tDGet (tVar j) (tVar 4))) [4]) σ H Q := by
  refine ⟨d, dI N, hd, True.intro, fun od => ?_⟩
  have tl := ht.lock (od := od) hd
  have el : (upd H d (.frz od (dI N))) d = some (.frz od (dI N)) := upd_same
  have sl : ∀ c o, c ≠ d → H c = some o → (upd H d (.frz od (dI N))) c = some o := fun c o n e => by rw [upd_ne n]; exact e
  generalize upd H d (.frz od (dI N)) = Hl at tl el sl
  refine ⟨_, hj, d, od, rfl, .inl ⟨N.map kvi, el, fun D hD => ?_⟩⟩
  have w0 : ∀ x : V, ((wipe σ [4]).set 4 (some x))[0]? = some (some (.ref t)) := fun x => by
    show ((σ.set 4 none).set 4 (some x))[0]? = _
    rw [List.set_set, List.getElem?_set_ne (by decide)]
    exact h0
  have wj : ∀ x : V, ((wipe σ [4]).set 4 (some x))[j]? = some (some (.ref d)) := fun x => by
    show ((σ.set 4 none).set 4 (some x))[j]? = _
    rw [List.set_set, List.getElem?_set_ne hj4.symm]
    exact hj
  have w4 : ∀ x : V, ((wipe σ [4]).set 4 (some x))[4]? = some (some x) := fun x => by
    rw [List.getElem?_set_self (by rw [wipe_length]; exact h4)]
  refine lc_it (walk_keys (o := od) (d := d) (kvs := N.map kvi)) (fun i H' => Same Hl H' ∧ H' D = some (.lst ((List.replicate i false).map V.bl))) ⟨same_new hD, upd_same⟩ (fun i H' _ ⟨s2, _⟩ => s2 _ _ el) ?_ ?_
  · intro i x Ha Hb hi ⟨s2, hdD⟩ ⟨e, kk, v, hk, ex⟩
    subst e ex
    rw [List.getElem?_map] at hk
    obtain ⟨q, hq, eq⟩ := Option.map_eq_some_iff.mp hk
    have ek : kk = .inr q.1 := (congrArg Prod.fst eq).symm
    subst ek
    have hqN := List.mem_of_getElem? hq
    have hin : q.1 ∈ ks N := List.mem_map.mpr ⟨q, hqN, rfl⟩
    refine ⟨?_, yes_of (iteT ?_)⟩
    · show ((σ.set 4 none).set 4 (some _)).set 4 none = σ.set 4 none
      rw [List.set_set, List.set_set]
    obtain ⟨dx, d1, d2, i1, i2, i3⟩ := tl.same s2
    have lk : ([("_numbers", V.ref d1), ("_worths", V.ref d2)] : List (Str × V)).lookup m = none := by
      rcases hnm with h | h <;> subst h <;> rfl
    refine ⟨_, w0 _, t, dx, _, rfl, i1, lk, _, w4 _, t, .str q.1, A, B, rfl, ⟨dx, d1, d2, i1, i2, i3⟩, .inl ⟨q.1, rfl, hs.2.2.1 _ hin, fun H3 s3 => ?_⟩⟩
    have s4 := s2.trans s3
    have gN : get? N q.1 = some (get0 N q.1) := by
      have := get?_of hs.2.1 (show (q.1, q.2) ∈ N from hqN)
      unfold get0
      rw [this]
      rfl
    refine ⟨_, wj _, _, w4 _, d, .int (get0 N q.1), rfl, .inl ⟨N.map kvi, .inr q.1, .inr ⟨od, s4 _ _ el⟩, rfl, by rw [valV_kvi, gN]; rfl⟩, rfl, ?_⟩
    have e1 : get0 (if first = true then A else B) q.1 = get0 N q.1 := by
      have nA : (ks (if first = true then A else B)).Nodup := (ks_perm hs.1).nodup_iff.mpr (nz_nodup hs.2.1)
      rw [get0_perm hs.1 nA, get0_nz hs.2.1]
    have e2 : (!decide (V.int (get0 (if first = true then A else B) q.1) = V.int (get0 N q.1))) = false := by
      rw [e1, decide_eq_true rfl]
      rfl
    refine ⟨_, s3 _ _ hdD, ?_, ?_, ?_⟩
    · have hl : N.length ≤ 50 := hs.2.2.2.1
      rw [List.length_map] at hi
      rw [List.length_map, List.length_replicate, sizeLine_eq]
      omega
    · intro c o e
      rw [upd_ne (ne_of_none e hD)]
      exact s4 _ _ e
    · rw [upd_same]
      show some (HO.lst (_ ++ [V.bl (!decide (V.int (get0 (if first = true then A else B) q.1) = V.int (get0 N q.1)))])) = _
      rw [e2, List.replicate_succ', List.map_append]
      rfl
  · intro H2 ⟨s2, hdD⟩
    refine ⟨s2 _ _ el, k D _ (fun c o e => ?_) ?_⟩
    · by_cases ec : c = d
      · subst ec
        rw [hd] at e
        rw [← Option.some.inj e]
        exact upd_same
      · rw [upd_ne ec]
        exact s2 _ _ (sl _ _ ec e)
    · have nDd : D ≠ d := fun e => by rw [e, el] at hD; cases hD
      rw [upd_ne nDd]
      rw [List.length_map] at hdD
      exact hdD
theorem vals_of {σ : L2.St} {H : Hp} {Q : VK} {d : Addr} {N : NI} {j : Nat} (hj : σ[j]? = some (some (.ref d))) (hj4 : j ≠ 4) (h4 : 4 < σ.length) (hd : H d = some (dI N)) (hn : (ks N).Nodup) (hl : N.length ≤ 50)
    (k : ∀ (D : Addr) (H' : Hp), Same H H' → H' D = some (.lst ((N.map fun p : Str × Int => p.2).map V.int)) → Q (.ref D) H') :
    tLockE (tLc (iKeys (tVar j)) (gName 4) tYes (tDGet (tVar j) (tVar 4)) [4]) σ H Q := by
  refine ⟨d, dI N, hd, True.intro, fun od => ?_⟩
  have el : (upd H d (.frz od (dI N))) d = some (.frz od (dI N)) := upd_same
  have sl : ∀ c o, c ≠ d → H c = some o → (upd H d (.frz od (dI N))) c = some o := fun c o n e => by rw [upd_ne n]; exact e
  generalize upd H d (.frz od (dI N)) = Hl at el sl
  refine ⟨_, hj, d, od, rfl, .inl ⟨N.map kvi, el, fun D hD => ?_⟩⟩
  have wj : ∀ x : V, ((wipe σ [4]).set 4 (some x))[j]? = some (some (.ref d)) := fun x => by
    show ((σ.set 4 none).set 4 (some x))[j]? = _
    rw [List.set_set, List.getElem?_set_ne hj4.symm]
    exact hj
  have w4 : ∀ x : V, ((wipe σ [4]).set 4 (some x))[4]? = some (some x) := fun x => by
    rw [List.getElem?_set_self (by rw [wipe_length]; exact h4)]
  refine lc_it (walk_keys (o := od) (d := d) (kvs := N.map kvi)) (fun i H' => Same Hl H' ∧ H' D = some (.lst (((N.take i).map fun p : Str × Int => p.2).map V.int))) ⟨same_new hD, upd_same⟩ (fun i H' _ ⟨s2, _⟩ => s2 _ _ el) ?_ ?_
  · intro i x Ha Hb hi ⟨s2, hdD⟩ ⟨e, kk, v, hk, ex⟩
    subst e ex
    rw [List.getElem?_map] at hk
    obtain ⟨q, hq, eq⟩ := Option.map_eq_some_iff.mp hk
    have ek : kk = .inr q.1 := (congrArg Prod.fst eq).symm
    subst ek
    have hqN := List.mem_of_getElem? hq
    refine ⟨?_, yes_of (iteT ?_)⟩
    · show ((σ.set 4 none).set 4 (some _)).set 4 none = σ.set 4 none
      rw [List.set_set, List.set_set]
    refine ⟨_, wj _, _, w4 _, d, .int q.2, rfl, .inl ⟨N.map kvi, .inr q.1, .inr ⟨od, s2 _ _ el⟩, rfl, by rw [valV_kvi, get?_of hn (show (q.1, q.2) ∈ N from hqN)]; rfl⟩, _, hdD, ?_, ?_, ?_⟩
    · rw [List.length_map, List.length_map, List.length_take, sizeLine_eq]
      omega
    · intro c o e
      rw [upd_ne (ne_of_none e hD)]
      exact s2 _ _ e
    · rw [upd_same, List.take_succ, hq, List.map_append, List.map_append]
      rfl
  · intro H2 ⟨s2, hdD⟩
    refine ⟨s2 _ _ el, k D _ (fun c o e => ?_) ?_⟩
    · by_cases ec : c = d
      · subst ec
        rw [hd] at e
        rw [← Option.some.inj e]
        exact upd_same
      · rw [upd_ne ec]
        exact s2 _ _ (sl _ _ ec e)
    · have nDd : D ≠ d := fun e => by rw [e, el] at hD; cases hD
      rw [upd_ne nDd]
      rw [List.length_map, List.take_length] at hdD
      exact hdD
theorem meth1_of {sp : Sp} {m : Str} {σ : L2.St} {H : Hp} {Q : VK} {i j : Nat} {t dx : Addr} {fs : List (Str × V)} {x : V} (hi : σ[i]? = some (some (.ref t))) (ht : H t = some (.ins C dx fs)) (hl : fs.lookup m = none) (hj : σ[j]? = some (some x)) (h : sp [.ref t, x] H Q E0) :
    tMeth C m sp [] E0 (tVar i) (tCons (tVar j) tNil) σ H Q := ⟨_, hi, t, dx, fs, rfl, ht, hl, _, hj, h⟩
theorem ok_isright (F : FnP K "_law_is_right" s_l_is_right [] f fd) (T : TabC K C) (nk : NoAttr K C "row_kinds" ∨ True) (M : Meths P w K mg base C) (Ls : Cal P w K mg base 1 "_law_less" [] sp_less) (mL : mg "list" = none) (mA : mg "any" = none) (mS : mg "sum" = none) :
    FnOk P w K mg base CX0 3 f fd ["_law_table", "_law_numbers", "_law_worths"] (sp_isright C) := by
  refine F.ok sc_l_is_right (fun vs H Q E h => ?_) (fun cdv A outer s H vs Q E hr h => ?_)
  · obtain ⟨t, d, e, A, B, N, M', rfl, _⟩ := h
    rfl
  · obtain ⟨t, d, e, A, B, N, M', rfl, ht, hd, he, hsA, hsB, k⟩ := h
    have nd := sc_l_is_right.nd
    have hu := hu_of hr
    have hr1 := hr.mono (show 1 ≤ 2 by decide)
    refine ⟨_, PSs.nox (pss_cons (ps_if (PW.pt (pw_or (pt_cmpR (op_neS (Nat.lt_of_succ_lt hu)) (pe_m0 M.rk T.cl hr1 (pv 0)) (pe_callTy (call_list_dK rfl) (by rfl) mL (by decide +kernel) (pa_cons (pe_cal Ls hr1 (pa_cons (pv 1) pa_nil)) pa_nil)) (nomark _))
          (pw_or1 (pt_cmpR (op_neS (Nat.lt_of_succ_lt hu)) (pe_m0 M.cn T.cl hr1 (pv 0)) (pe_callTy (call_list_dK rfl) (by rfl) mL (by decide +kernel) (pa_cons (pe_cal Ls hr1 (pa_cons (pv 2) pa_nil)) pa_nil)) (nomark _)))))
        (pss_one (ps_ret pe_bl)) pss_nil)
      (pss_cons (ps_if (pt_val (pe_callB (cr_any rfl) (by rfl) mA PyProof.Rows.Boot.«any» (pa_cons (pe_lock (pe_lc (own := [("_law_name_here", 4)]) (g := gName 4) (tt := tYes) rfl nd (pi_keys (pv 1)) (blkOk_by (N := rightN) (sc := defScope s_l_is_right) (by decide +kernel)) (fun _ _ _ _ _ => pg_name (i := 4) nd rfl (Or.inl rfl)) (fun _ _ _ _ _ => pts_nil)
          (fun _ _ _ _ _ => pe_cmpR op_ne (pe_m1 M.rows T.cl hr (pv 0) (pv 4)) (pe_dget hu (pv 1) (pv 4) (fun _ _ => rfl)) (nomark _)))) pa_nil)))
        (pss_one (ps_ret pe_bl)) pss_nil)
      (pss_cons (ps_if (pt_val (pe_callB (cr_any rfl) (by rfl) mA PyProof.Rows.Boot.«any» (pa_cons (pe_lock (pe_lc (own := [("_law_name_here", 4)]) (g := gName 4) (tt := tYes) rfl nd (pi_keys (pv 2)) (blkOk_by (N := rightN) (sc := defScope s_l_is_right) (by decide +kernel)) (fun _ _ _ _ _ => pg_name (i := 4) nd rfl (Or.inl rfl)) (fun _ _ _ _ _ => pts_nil)
          (fun _ _ _ _ _ => pe_cmpR op_ne (pe_m1 M.worth T.cl hr (pv 0) (pv 4)) (pe_dget hu (pv 2) (pv 4) (fun _ _ => rfl)) (nomark _)))) pa_nil)))
        (pss_one (ps_ret pe_bl)) pss_nil)
      (pss_cons (ps_for PassesOwn.never rfl (pi_list (pe_lst (pa_cons pe_str (pa_cons pe_non (pa_cons pe_int (pa_cons (pe_tup (pa_cons pe_str pa_nil)) (pa_cons (pe_lst (pa_cons pe_str pa_nil)) (pa_cons pe_dnewK pa_nil)))))))) (pg_name (i := 3) nd rfl (Or.inl rfl))
          (pss_one (ps_if (PW.pt (pw_or (pt_cmpR op_ne (pe_m1 M.rows T.cl hr (pv 0) (pv 3)) pe_int (nomark _)) (pw_or1 (pt_cmpR op_ne (pe_m1 M.worth T.cl hr (pv 0) (pv 3)) pe_int (nomark _))))) (pss_one (ps_ret pe_bl)) pss_nil)))
      (pss_one (ps_ret (pe_cmpR op_eq (pe_m0 M.size T.cl hr1 (pv 0)) (pe_callB (cr_sum rfl) (by rfl) mS (by decide +kernel) (pa_cons (pe_lock (pe_lc (own := [("_law_name_here", 4)]) (g := gName 4) (tt := tYes) rfl nd (pi_keys (pv 1)) (blkOk_by (N := rightN) (sc := defScope s_l_is_right) (by decide +kernel)) (fun _ _ _ _ _ => pg_name (i := 4) nd rfl (Or.inl rfl)) (fun _ _ _ _ _ => pts_nil)
          (fun _ _ _ _ _ => pe_dget hu (pv 1) (pv 4) (fun _ _ => rfl)))) pa_nil)) (nomark _)))))))), ?_⟩
    obtain ⟨dx, a1, a2, i1, i2, i3⟩ := id ht
    have lA : A.length ≤ 60 := by
      have h1 := hsA.1.length_eq
      have h2 : (nz N).length ≤ N.length := List.length_filter_le _ _
      have h3 := hsA.2.2.2.1
      omega
    have lB : B.length ≤ 60 := by
      have h1 := hsB.1.length_eq
      have h2 : (nz M').length ≤ M'.length := List.length_filter_le _ _
      have h3 := hsB.2.2.2.1
      omega
    have lN : N.length ≤ 60 := Nat.le_trans hsA.2.2.2.1 (by decide)
    have lM : M'.length ≤ 60 := Nat.le_trans hsB.2.2.2.1 (by decide)
    have kvk : ∀ L : NI, ((L.map kvi).map fun kv => kV kv.1) = (ks L).map V.str := fun L => by
      unfold ks
      rw [List.map_map, List.map_map]
      rfl
    refine ifs_of (or_of (test_of ?_))
    refine ⟨_, rfl, t, dx, _, rfl, i1, rfl, t, A, B, rfl, ht, lA, lB, fun ys p pm so hp => ?_⟩
    have s1 := same_new (o := .lst (ys.map V.str)) hp
    have e1 : (upd H p (.lst (ys.map V.str))) p = some (.lst (ys.map V.str)) := upd_same
    generalize upd H p (.lst (ys.map V.str)) = H1 at s1 e1
    refine ⟨_, rfl, d, N, rfl, s1 _ _ hd, hsA.2.1, lN, fun d' L H2 hd' s2 hL hLess hlen => ?_⟩
    refine ⟨d', L.map kvi, rfl, hL, fun q hq => ?_⟩
    rw [kvk, ← kinds_less hsA hLess pm so]
    refine ⟨p, q, ys.map V.str, rfl, rfl, SqL.of (same_new hq _ _ (s2 _ _ e1)), SqL.of upd_same, strs_tame ys, false, rfl, iteF ?_⟩
    have s3 := (s1.trans s2).trans (same_new (o := .lst (ys.map V.str)) hq)
    generalize upd H2 q (.lst (ys.map V.str)) = H3 at s3
    clear s2 s1 e1 hL hd' hq hp
    refine test_of ?_
    refine ⟨_, rfl, t, dx, _, rfl, s3 _ _ i1, rfl, t, A, B, rfl, ht.same s3, lA, lB, fun ys2 p2 pm2 so2 hp2 => ?_⟩
    have s4 := same_new (o := .lst (ys2.map V.str)) hp2
    have e4 : (upd H3 p2 (.lst (ys2.map V.str))) p2 = some (.lst (ys2.map V.str)) := upd_same
    generalize upd H3 p2 (.lst (ys2.map V.str)) = H4 at s4 e4
    refine ⟨_, rfl, e, M', rfl, s4 _ _ (s3 _ _ he), hsB.2.1, lM, fun d2' L2 H5 hd2' s5 hL2 hLess2 hlen2 => ?_⟩
    refine ⟨d2', L2.map kvi, rfl, hL2, fun q2 hq2 => ?_⟩
    rw [kvk, ← kinds_less hsB hLess2 pm2 so2]
    refine ⟨p2, q2, ys2.map V.str, rfl, rfl, SqL.of (same_new hq2 _ _ (s5 _ _ e4)), SqL.of upd_same, strs_tame ys2, false, rfl, iteF (nx_of ?_)⟩
    have s6 := s3.trans ((s4.trans s5).trans (same_new (o := .lst (ys2.map V.str)) hq2))
    generalize upd H5 q2 (.lst (ys2.map V.str)) = H6 at s6
    clear s5 s4 e4 hL2 hd2' hq2 hp2 s3
    -- the rows, the worths
    refine ifs_of ?_
    refine anyrows_of (m := "rows") (first := true) (σ := [some (V.ref t), some (V.ref d), some (V.ref e), none, none]) (j := 1) rfl rfl (by decide) (by show 4 < 5; decide) (ht.same s6).r (s6 _ _ hd) (.inl rfl) hsA fun D1 H7 s7 hD1 => ?_
    refine ⟨D1, _, rfl, SqL.of hD1, _, rfl, ?_⟩
    rw [any_false]
    refine iteF (nx_of ?_)
    have s8 := s6.trans s7
    refine ifs_of ?_
    refine anyrows_of (m := "worth") (first := false) (σ := [some (V.ref t), some (V.ref d), some (V.ref e), none, none]) (j := 2) rfl rfl (by decide) (by show 4 < 5; decide) (ht.same s8).r (s8 _ _ he) (.inr rfl) hsB fun D2 H8 s9 hD2 => ?_
    refine ⟨D2, _, rfl, SqL.of hD2, _, rfl, ?_⟩
    rw [any_false]
    refine iteF (nx_of ?_)
    have s10 := s8.trans s9
    clear s6 s7 s8 s9 hD1 hD2
    show tSeq (tFor (iList K (tLst (tCons (tC (.str "nobody")) (tCons (tC .non) (tCons (tC (.int 5)) (tCons (tTup (tCons (tC (.str "a")) tNil)) (tCons (tLst (tCons (tC (.str "a")) tNil)) (tCons tDNewK tNil)))))))) (gName 3) _) _ _ [some (V.ref t), some (V.ref d), some (V.ref e), none, none] H8
    refine ⟨(by show 1 ≤ sizeLine; decide), fun b1 hb1 => ⟨(by show 1 ≤ sizeLine; decide), fun b2 hb2 => fun b3 hb3 => ⟨(by show 6 ≤ sizeLine; decide), fun l hl => ?_⟩⟩⟩
    have t1 : (upd (upd (upd (upd H8 b1 (.tup [.str "a"])) b2 (.lst [.str "a"])) b3 (.dK [])) l (.lst [V.str "nobody", .non, .int 5, .ref b1, .ref b2, .ref b3])) b1 = some (.tup [.str "a"]) := same_new hl _ _ (same_new hb3 _ _ (same_new hb2 _ _ upd_same))
    have t2 : (upd (upd (upd (upd H8 b1 (.tup [.str "a"])) b2 (.lst [.str "a"])) b3 (.dK [])) l (.lst [V.str "nobody", .non, .int 5, .ref b1, .ref b2, .ref b3])) b2 = some (.lst [.str "a"]) := same_new hl _ _ (same_new hb3 _ _ upd_same)
    have t3 : (upd (upd (upd (upd H8 b1 (.tup [.str "a"])) b2 (.lst [.str "a"])) b3 (.dK [])) l (.lst [V.str "nobody", .non, .int 5, .ref b1, .ref b2, .ref b3])) b3 = some (.dK []) := same_new hl _ _ upd_same
    have t4 : (upd (upd (upd (upd H8 b1 (.tup [.str "a"])) b2 (.lst [.str "a"])) b3 (.dK [])) l (.lst [V.str "nobody", .non, .int 5, .ref b1, .ref b2, .ref b3])) l = some (.lst [V.str "nobody", .non, .int 5, .ref b1, .ref b2, .ref b3]) := upd_same
    have s11 := s10.trans ((same_new hb1).trans ((same_new hb2).trans ((same_new hb3).trans (same_new (o := .lst [V.str "nobody", .non, .int 5, .ref b1, .ref b2, .ref b3]) hl))))
    show ∃ _, _
    refine ⟨l, rfl, ⟨_, SqL.of t4⟩, ?_⟩
    generalize upd (upd (upd (upd H8 b1 (.tup [.str "a"])) b2 (.lst [.str "a"])) b3 (.dK [])) l (.lst [V.str "nobody", .non, .int 5, .ref b1, .ref b2, .ref b3]) = H9 at t1 t2 t3 t4 s11
    have zA : get0 A "nobody" = 0 := by
      have nA : (ks A).Nodup := (ks_perm hsA.1).nodup_iff.mpr (nz_nodup hsA.2.1)
      rw [get0_perm hsA.1 nA, get0_nz hsA.2.1]
      exact get0_none hsA.2.2.2.2
    have zB : get0 B "nobody" = 0 := by
      have nB : (ks B).Nodup := (ks_perm hsB.1).nodup_iff.mpr (nz_nodup hsB.2.1)
      rw [get0_perm hsB.1 nB, get0_nz hsB.2.1]
      exact get0_none hsB.2.2.2.2
    have odd : ∀ x ∈ [V.str "nobody", .non, .int 5, .ref b1, .ref b2, .ref b3], x = .str "nobody" ∨ OddN K H9 x := fun x hx => by
      simp only [List.mem_cons, List.not_mem_nil, or_false] at hx
      rcases hx with h | h | h | h | h | h <;> subst h
      · exact .inl rfl
      · exact .inr ⟨_, .base .non, kit_ty (by decide +kernel)⟩
      · exact .inr ⟨_, .base (.int _), kit_ty (by decide +kernel)⟩
      · exact .inr ⟨_, .base (.tup t1), kit_ty (by decide +kernel)⟩
      · exact .inr ⟨_, .base (.lst t2), kit_ty (by decide +kernel)⟩
      · exact .inr ⟨_, .base (.dK t3), kit_ty (by decide +kernel)⟩
    refine for_list (K := K) (a := l) (xs := [V.str "nobody", .non, .int 5, .ref b1, .ref b2, .ref b3]) (fun i σ H' => Same H9 H' ∧ ∃ y, σ = [some (V.ref t), some (V.ref d), some (V.ref e), y, none]) ⟨fun _ _ e => e, none, rfl⟩ (fun i σ H' _ ⟨s2, _⟩ => SqL.of (s2 _ _ t4)) ?_ ?_
    · intro i x σ H' hx ⟨s12, y, ey⟩
      subst ey
      have hodd := odd x (List.mem_of_getElem? hx)
      have s13 := s11.trans s12
      have rw0 : ∀ (first : Bool) (Ha : Hp) (Qa : VK), Same H9 Ha → (∀ Hb, Same Ha Hb → Qa (.int 0) Hb) → sp_rows K C first [.ref t, x] Ha Qa E0 := fun first Ha Qa sa q => by
        refine ⟨t, x, A, B, rfl, (ht.same (s11.trans sa)).r, ?_⟩
        rcases hodd with h | h
        · refine .inl ⟨"nobody", h, by decide +kernel, fun Hb sb => ?_⟩
          have e0 : get0 (if first = true then A else B) "nobody" = 0 := by
            cases first
            · exact zB
            · exact zA
          rw [e0]
          exact q Hb sb
        · exact .inr ⟨let ⟨ty, h1, h2⟩ := h; ⟨ty, Sl.TyX.same h1 sa, h2⟩, q⟩
      refine or_of (test_of ?_)
      refine meth1_of rfl (s13 _ _ i1) rfl rfl (rw0 true _ _ s12 fun Hb sb => ⟨rfl, _, rfl, iteF ?_⟩)
      refine test_of (meth1_of rfl (sb _ _ (s13 _ _ i1)) rfl rfl (rw0 false _ _ (s12.trans sb) fun Hc sc => ⟨rfl, _, rfl, iteF ?_⟩))
      exact ⟨(s12.trans sb).trans sc, _, rfl⟩
    · intro σ H' ⟨s12, y, ey⟩
      subst ey
      have s13 := s11.trans s12
      refine ⟨_, rfl, t, dx, _, rfl, s13 _ _ i1, rfl, t, A, B, rfl, ht.same s13, ?_⟩
      refine vals_of (σ := [some (V.ref t), some (V.ref d), some (V.ref e), y, none]) (j := 1) rfl (by decide) (by show 4 < 5; decide) (s13 _ _ hd) hsA.2.1 hsA.2.2.2.1 fun D3 H10 s14 hD3 => ?_
      refine ⟨D3, _, rfl, SqL.of hD3, rfl, ?_⟩
      have es : sumI A = (N.map fun p : Str × Int => p.2).sum := by
        unfold sumI
        rw [sum_perm (hsA.1.map _), sum_nz]
      rw [es, decide_eq_true rfl]
      exact k H10 (s13.trans s14)
end
end Lw
/-! ## LawE -/
set_option Elab.async false
set_option linter.all false
set_option maxRecDepth 100000
set_option maxHeartbeats 8000000
namespace Lw
open PySem PySem.Spec PyProof.Rows L2 Sl
structure OwnF (P : Program) (w : World) (K : PySem.W.Frag) (mg : Str → Option Value) (base : Heap) (C : Addr) (k : Nat) (m : Str) (sp : Sp) : Prop where
  ex : ∃ (f : Addr) (fd : FuncData) (ps : List Str), PySem.W.findIn K (.ref C) m = some (some (.ref f)) ∧ PySem.W.isFn K (.ref f) = true ∧ FnOk P w K mg base CX0 k f fd ps sp ∧ Binds K fd ps []
structure Top01 (P : Program) (w : World) (K : PySem.W.Frag) (mg : Str → Option Value) (base : Heap) (C : Addr) : Prop where
  src : Cal P w K mg base 1 "_law_source" [] (sp_source K)
  drw : Cal P w K mg base 1 "_law_draw" [] sp_draw
  nms : Cal P w K mg base 3 "_law_names" [] (sp_names K)
  lists : Cal P w K mg base 3 "_law_lists" [] (sp_lists K)
  less : Cal P w K mg base 1 "_law_less" [] sp_less
  right : Cal P w K mg base 3 "_law_is_right" [] (sp_isright C)
  tab : TabF P w K mg base C
  M : Meths P w K mg base C
  oeq : OwnF P w K mg base C 1 "__eq__" (sp_teq K C)
  oadd : OwnF P w K mg base C 6 "__add__" (sp_tadd K C)
  one : PySem.W.findIn K (.ref C) "__ne__" = some (some (.builtin "object.__ne__"))
  osub : PySem.W.subIn K (.ref C) (.type "object") = some true
  oself : PySem.W.selfFirst K C = true
  nD : PySem.W.notFirst K C (.type "dict") = true
  nN : PySem.W.notFirst K C (.type "NoneType") = true
  mD : mg "dict" = none
  mS : mg "sorted" = none
section
variable {X : Cx} {C : Addr} {k : Nat} {sp : Sp}
theorem op_oeq (h : OwnF X.prog X.w X.K X.mg X.base C k "__eq__" sp) (hr : Room k X.A) : OpR X (compareOp .Eq) (rOwnEq X.K C sp) := by
  obtain ⟨f, fd, ps, hs, hf, F, b⟩ := h.ex
  exact op_ownEq F hs hf b pass0 hr
theorem op_one (h : OwnF X.prog X.w X.K X.mg X.base C k "__eq__" sp) (hne : PySem.W.findIn X.K (.ref C) "__ne__" = some (some (.builtin "object.__ne__"))) (ho : PySem.W.subIn X.K (.ref C) (.type "object") = some true) (hr : Room (k + 1) X.A) : OpR X (compareOp .NotEq) (rOwnNe X.K C sp) := by
  obtain ⟨f, fd, ps, hs, hf, F, b⟩ := h.ex
  exact op_ownNe F hs hf hne ho b pass0 hr
theorem op_oadd (h : OwnF X.prog X.w X.K X.mg X.base C k "__add__" sp) (hc : PySem.W.selfFirst X.K C = true) (hr : Room k X.A) : OpR X (binaryOp .Add) (rOwnOp C sp) := by
  obtain ⟨f, fd, ps, hs, hf, F, b⟩ := h.ex
  exact op_ownOp F hs hf hc b pass0 hr
end
def sp_law (K : PySem.W.Frag) : Sp := fun vs H Q _ => ∃ (a : Addr) (ns : List Int), vs = [.ref a] ∧ SqL K H a (ns.map V.int) ∧ ns.length ≤ 63 ∧ ∀ H', Q (.bl true) H'
abbrev lawN : List Str := ["_law_script", "_law_source_here", "_law_names_here", "_law_numbers", "_law_worths", "_law_handed", "_law_told", "_law_table", "_law_more", "_law_rest", "_law_other", "_law_same", "_law_both", "_law_ends", "_law_name_here"]
section
variable {P : Program} {w : World} {K : PySem.W.Frag} {mg : Str → Option Value} {base : Heap} {f : Addr} {fd : FuncData} {C : Addr}
theorem tmake_of {σ : L2.St} {H1 : Hp} {Q : VK} {i j : Nat} {a b : Addr} {A B : NI} {K : PySem.W.Frag} {C : Addr} (hi : σ[i]? = some (some (.ref a))) (hj : σ[j]? = some (some (.ref b))) (ha : PArg K H1 a A) (oA : okNI A false) (hb : PArg K H1 b B) (oB : okNI B true)
    (k : ∀ x d1 d2 H', H1 x = none → H1 d1 = none → H1 d2 = none → Same H1 H' → TabX H' C x (nz A) (nz B) d1 d2 → Q (.ref x) H') : tMake C (sp_tinit K C) [] E0 (tCons (tVar i) (tCons (tVar j) tNil)) σ H1 Q := ⟨_, hi, _, hj, tmake_k ha oA hb oB k⟩
theorem gen_of {t U : TS} {D : Ends} {σ : L2.St} {H : Hp} {P : L2.St → Hp → Prop} (h1 : ∀ V : TS, (∀ σ' H', P σ' H' → V D σ' H') → tSeq t V D σ H) (h2 : ∀ σ' H', P σ' H' → U D σ' H') : tSeq t U D σ H := h1 U h2
theorem if1_of {c : TT} {t u : TS} {D : Ends} {σ : L2.St} {H : Hp} (h : c σ H fun b H1 => if b = true then t D σ H1 else u D σ H1) : tIfS c t u D σ H := h
/-- what is known of the things told for the other table -/
structure More (H : Hp) (xs : List Str) (m r : Addr) (M R : NI) : Prop where
  hm : H m = some (dI M)
  hr : H r = some (dI R)
  om : okNI M false
  or_ : okNI R true
  km : ∀ x ∈ ks M, x ∈ xs.take 4
  kr : ∀ x ∈ ks R, x ∈ xs.drop 3
  lm : M.length ≤ 20
  lr : R.length ≤ 20
theorem More.same {H H' : Hp} {xs : List Str} {m r : Addr} {M R : NI} (h : More H xs m r M R) (k : Same H H') : More H' xs m r M R := ⟨k _ _ h.hm, k _ _ h.hr, h.om, h.or_, h.km, h.kr, h.lm, h.lr⟩
theorem get0_nn {M : NI} (o : okNI M false) (x : Str) : 0 ≤ get0 M x := by
  unfold get0
  cases e : get? M x with
  | none => exact Int.le_refl 0
  | some i =>
    rcases o.2.2.1 with h | h
    · cases h
    · exact h _ (get?_mem e)
theorem putI_mem {A : NI} {x : Str} {i : Int} {r : Str × Int} (h : r ∈ putI A x i) : r = (x, i) ∨ r ∈ A := by
  unfold putI at h
  split at h
  · obtain ⟨p, hp, e⟩ := List.mem_map.mp h
    by_cases ex : p.1 = x
    · rw [if_pos ex] at e
      exact .inl (by rw [← e, ex])
    · rw [if_neg ex] at e
      exact .inr (e ▸ hp)
  · rcases List.mem_append.mp h with h | h
    · exact .inr h
    · exact .inl (List.mem_singleton.mp h)
theorem putI_len (A : NI) (x : Str) (i : Int) : (putI A x i).length ≤ A.length + 1 := by
  unfold putI
  split
  · rw [List.length_map]
    omega
  · rw [List.length_append]
    exact Nat.le_refl _
theorem val_get0 {M : NI} (n : (ks M).Nodup) {q : Str × Int} (h : q ∈ M) : q.2 = get0 M q.1 := by
  unfold get0
  rw [get?_of n (show (q.1, q.2) ∈ M from h)]
  rfl
theorem get?_in {M : NI} {x : Str} (h : x ∈ ks M) : get? M x = some (get0 M x) := by
  unfold get0
  cases e : get? M x with
  | none => exact absurd h (get?_none.mp e)
  | some i => rfl
theorem tinit_of {H1 : Hp} {Qs : VK} {x dx a b : Addr} {A B : NI} {K : PySem.W.Frag} {C : Addr} {E : XK} (hx : H1 x = none) (hdx : H1 dx = none) (ne : dx ≠ x) (ha : PArg K H1 a A) (oA : okNI A false) (hb : PArg K H1 b B) (oB : okNI B true)
    (k : ∀ H' d1 d2, H1 d1 = none → H1 d2 = none → Same H1 H' → TabX H' C x (nz A) (nz B) d1 d2 → Qs .non H') : sp_tinit K C [.ref x, .ref a, .ref b] (upd (upd H1 dx (.own x)) x (.ins C dx [])) Qs E := by
  have s0 : Same H1 (upd (upd H1 dx (.own x)) x (.ins C dx [])) := fun c o e => by
    rw [upd_ne (ne_of_none e hx), upd_ne (ne_of_none e hdx)]
    exact e
  have fr : ∀ {c : Addr}, (upd (upd H1 dx (.own x)) x (.ins C dx [])) c = none → H1 c = none := fun {c} h => by
    cases e : H1 c with
    | none => rfl
    | some o => rw [s0 _ _ e] at h; cases h
  exact ⟨x, dx, a, b, A, B, rfl, upd_same, ha.same s0, oA, hb.same s0, oB, fun H' d1 d2 kp f1 f2 tb => k H' d1 d2 (fr f1) (fr f2) (fun c o e => kp c o (ne_of_none e hx) (s0 c o e)) tb⟩
theorem less_perm {N L : NI} (h : LessOf N L) (n : (ks N).Nodup) : L.Perm (nz N) := perm_of_get0 h.2.2.2.2 (nz_nodup n) h.2.2.2.1 (nz_noZ N) fun x => by rw [h.2.2.1, get0_nz n]
theorem eqI_less {M N L1 L2 : NI} (h1 : LessOf M L1) (h2 : LessOf N L2) (nM : (ks M).Nodup) (nN : (ks N).Nodup) : eqI L1 L2 = eqI (nz N) (nz M) := by
  rw [Bool.eq_iff_iff, eqI_iff h1.2.2.2.2 h2.2.2.2.2, eqI_iff (nz_nodup nN) (nz_nodup nM)]
  have e1 := get?_perm (less_perm h1 nM) h1.2.2.2.2
  have e2 := get?_perm (less_perm h2 nN) h2.2.2.2.2
  exact ⟨fun h x => by rw [← e1, ← e2, h], fun h x => by rw [e1, e2, h]⟩
theorem eqI_comm {A B : NI} (ha : (ks A).Nodup) (hb : (ks B).Nodup) : eqI A B = eqI B A := by
  rw [Bool.eq_iff_iff, eqI_iff ha hb, eqI_iff hb ha]
  exact ⟨fun h x => (h x).symm, fun h x => (h x).symm⟩
theorem eqI_refl {A : NI} (ha : (ks A).Nodup) : eqI A A = true := (eqI_iff ha ha).mpr fun _ => rfl
theorem okNI_nz {A : NI} {b : Bool} (o : okNI A b) : okNI (nz A) b := ⟨nz_nodup o.1, fun p hp => o.2.1 p (List.mem_filter.mp hp).1, o.2.2.1.imp id fun h p hp => h p (List.mem_filter.mp hp).1, Nat.le_trans (List.length_filter_le _ _) o.2.2.2⟩
theorem okNil (b : Bool) : okNI [] b := ⟨List.nodup_nil, fun _ h => absurd h List.not_mem_nil, .inr fun _ h => absurd h List.not_mem_nil, Nat.zero_le _⟩
/-- dict([(x, d.get(x, 0) + e.get(x, 0)) for x in the names of the list l]) -/
theorem two_sums {K : PySem.W.Frag} {σ : L2.St} {H1 : Hp} {l d e D : Addr} {ys : List Str} {M N : NI} {i j : Nat} {Qd : Hp → Prop} (hm : 14 < σ.length) (hi : σ[i]? = some (some (.ref d))) (hj : σ[j]? = some (some (.ref e))) (ni : i ≠ 14) (nj : j ≠ 14)
    (hl : H1 l = some (.lst (ys.map V.str))) (hlen : ys.length ≤ 100) (hd : H1 d = some (dI M)) (he : H1 e = some (dI N)) (hD : H1 D = none)
    (k : ∀ (A : NI) (H' : Hp), Same H1 H' → ks A = ys → (∀ q ∈ A, q.2 = get0 M q.1 + get0 N q.1) → PairsL H' D A → Qd H') :
    ∃ W : Nat → Nat → Hp → Prop, (∃ m, W 0 m (upd H1 D (.lst []))) ∧ ∀ i' m' H, W i' m' H → ((Itl K l).stop i' H ∧ Qd H) ∨ ((Itl K l).go i' H ∧ ∃ Nx : Hp → Prop, (∀ H', Nx H' → ∃ m'', m'' < m' ∧ W (i' + 1) m'' H') ∧ ∀ x H', (Itl K l).yld i' H x H' → gName 14 x (wipe σ [14]) H' fun σ2 H2 => wipe σ2 [14] = wipe σ [14] ∧ tYes σ2 H2 fun c H3 =>
        if c = true then tTup (tCons (tVar 14) (tCons (tOp (rI0 fun i j => .int (i + j)) (tDGet2 (tVar i) (tVar 14) (tC (.int 0))) (tDGet2 (tVar j) (tVar 14) (tC (.int 0)))) tNil)) σ2 H3 fun y H4 => ∃ acc, H4 D = some (.lst acc) ∧ acc.length < sizeLine ∧ Nx (upd H4 D (.lst (acc ++ [y]))) else Nx H3) := by
  have nl : l ≠ d := fun h => by rw [h, hd] at hl; cases hl
  refine lcp_of (K := K) (σ := σ) (p := d) (S := fun _ H' => H' d = some (dI M)) (good := fun x v => v = get0 M x + get0 N x) (b := fun _ => true) hm (SqL.of hl) nl hlen (fun _ _ h => ⟨_, h⟩) hd (fun _ H q o ne h => by rw [upd_ne ne.symm]; exact h) (fun _ _ h => h)
    (fun _ _ _ _ _ _ _ h => yes_of h) (fun x hx i' H' Q' hi' hS kp kk => ?_) hD ?_
  · have hN : H' e = some (dI N) := by
      by_cases ed : e = d
      · subst ed
        rw [hd] at he
        rw [hS, he]
      · exact kp _ _ ed he
    have gi : ((wipe σ [14]).set 14 (some (V.str x)))[i]? = some (some (.ref d)) := by
      show ((σ.set 14 none).set 14 (some (V.str x)))[i]? = _
      rw [List.set_set, List.getElem?_set_ne ni.symm]
      exact hi
    have gj : ((wipe σ [14]).set 14 (some (V.str x)))[j]? = some (some (.ref e)) := by
      show ((σ.set 14 none).set 14 (some (V.str x)))[j]? = _
      rw [List.set_set, List.getElem?_set_ne nj.symm]
      exact hj
    have g14 : ((wipe σ [14]).set 14 (some (V.str x)))[14]? = some (some (.str x)) := by
      rw [List.getElem?_set_self (by rw [wipe_length]; exact hm)]
    refine ⟨_, gi, d, rfl, .inl ⟨_, .inl hS⟩, _, g14, valV (M.map kvi) (.inr x), .inl ⟨M.map kvi, .inr x, .inl hS, rfl, rfl⟩, _, gj, e, rfl, .inl ⟨_, .inl hN⟩, _, g14, valV (N.map kvi) (.inr x), .inl ⟨N.map kvi, .inr x, .inl hN, rfl, rfl⟩, ?_⟩
    exact ⟨_, _, getD_kvi M x, getD_kvi N x, kk _ H' rfl hS (Keep.refl _ _)⟩
  · intro A H' kp hS hk hg hP
    rw [filt_true] at hk
    refine k A H' (fun c o ec => ?_) hk hg hP
    by_cases h : c = d
    · subst h
      rw [hd] at ec
      rw [← Option.some.inj ec]
      exact hS
    · exact kp _ _ h ec
theorem nxs_of {v : TS} {D D' : Ends} {σ : L2.St} {H : Hp} (h : v D σ H) : ({ D' with nx := v D } : Ends).nx σ H := h
theorem ok_law (F : FnP K "law" s_law [] f fd) (T : Top01 P w K mg base C) : FnOk P w K mg base CX0 7 f fd ["_law_script"] (sp_law K) := by
  refine F.ok sc_law (fun vs H Q E h => ?_) (fun cdv A outer s H vs Q E hr h => ?_)
  · obtain ⟨a, ns, rfl, _⟩ := h
    rfl
  · obtain ⟨a, ns, rfl, hS, hlen, k⟩ := h
    have nd := sc_law.nd
    have hu := hu_of hr
    have hu' := Nat.lt_of_succ_lt hu
    have hr1 : Room 1 (A.deeper (envOfC "law" (defScope s_law) s.heap.objs.size f cdv)) := hr.mono (by decide)
    have hr2 : Room 2 (A.deeper (envOfC "law" (defScope s_law) s.heap.objs.size f cdv)) := hr.mono (by decide)
    have hr3 : Room 3 (A.deeper (envOfC "law" (defScope s_law) s.heap.objs.size f cdv)) := hr.mono (by decide)
    have hr5 : Room 5 (A.deeper (envOfC "law" (defScope s_law) s.heap.objs.size f cdv)) := hr.mono (by decide)
    have cl := T.tab.T.cl
    refine ⟨_, PSs.nox (pss_cons (ps_set (i := 1) nd rfl (.inl rfl) (pe_cal T.src hr1 (pa_cons (pv 0) pa_nil)))
      (pss_cons (ps_set (i := 2) nd rfl (.inl rfl) (pe_cal T.nms hr3 (pa_cons (pv 1) (pa_cons pe_int pa_nil))))
      (pss_cons (ps_asg (pe_cal T.lists hr3 (pa_cons (pv 1) (pa_cons (pv 2) pa_nil))) (pg_two (i := 3) (j := 4) rfl nd rfl rfl (Or.inr rfl) (Or.inr rfl)))
      (pss_cons (ps_par (i := 5) (j := 6) (by rfl) nd rfl rfl (by decide) rfl rfl (pa_cons (pe_callTy call_dictD (by rfl) T.mD (by decide +kernel) (pa_cons (pv 3) pa_nil)) (pa_cons (pe_callTy call_dictD (by rfl) T.mD (by decide +kernel) (pa_cons (pv 4) pa_nil)) pa_nil)) (by rfl))
      (pss_cons (ps_set (i := 7) nd rfl (.inl rfl) (pe_ifExp (PW.pt (pw_or (pt_cmpR (op_neDic hu') (pv 4) pe_dnewK (nomark _)) (pw_or1 (pt_cmpR op_eq (pe_cal T.drw hr1 (pa_cons (pv 1) (pa_cons pe_int pa_nil))) pe_int (nomark _))))) (pe_table2 T.tab hr5 (pa_cons (pv 5) (pa_cons (pv 6) pa_nil))) (pe_table1 T.tab hr5 (pa_cons (pv 5) pa_nil))))
      (pss_cons (ps_expr (pe_dclear (pv 5)))
      (pss_cons (ps_dput hu (pv 6) pe_str pe_int rfl)
      (pss_cons (ps_if (pt_not (pt_val (pe_cal T.right hr3 (pa_cons (pv 7) (pa_cons (pv 3) (pa_cons (pv 4) pa_nil)))))) (pss_one (ps_ret pe_bl)) pss_nil)
      (pss_cons (ps_expr (pe_bm PySem.F.plainAttrs_list PySem.F.slot_list_append PySem.F.type_list_append mt_append (pe_m0 T.M.rk cl hr1 (pv 7)) (pa_cons pe_str pa_nil)))
      (pss_cons (ps_expr (pe_bm0 PySem.F.plainAttrs_list PySem.F.slot_list_clear PySem.F.type_list_clear mt_clear (pe_m0 T.M.cn cl hr1 (pv 7))))
      (pss_cons (ps_asg (pe_cal T.lists hr3 (pa_cons (pv 1) (pa_cons (pv 2) pa_nil))) (pg_two (i := 8) (j := 9) rfl nd rfl rfl (Or.inr rfl) (Or.inr rfl)))
      (pss_cons (ps_if (pt_cmpR op_eq (pe_cal T.drw hr1 (pa_cons (pv 1) (pa_cons pe_int pa_nil))) pe_int (nomark _))
        (pss_cons (ps_asg (pe_tup (pa_cons (pe_cal T.less hr1 (pa_cons (pv 3) pa_nil)) (pa_cons (pe_callTy (call_dictP rfl) (by rfl) T.mD (by decide +kernel) (pa_cons (pe_lc (own := [("_law_name_here", 14)]) (g := gName 14) (tt := tYes) rfl nd (pi_list (pe_revL (pe_callB (call_sortedD rfl) (by rfl) T.mS (by decide +kernel) (pa_cons (pv 4) pa_nil))))
            (blkOk_by (N := lawN) (sc := defScope s_law) (by decide +kernel)) (fun _ _ _ _ _ => pg_name (i := 14) nd rfl (Or.inl rfl)) (fun _ _ _ _ _ => pts_nil) (fun _ _ _ _ _ => pe_tup (pa_cons (pv 14) (pa_cons (pe_dget hu (pv 4) (pv 14) (fun _ _ => rfl)) pa_nil)))) pa_nil)) pa_nil))) (pg_two (i := 8) (j := 9) rfl nd rfl rfl (Or.inr rfl) (Or.inr rfl)))
        (pss_one (ps_if (pt_cmpR op_eq (pe_cal T.drw hr1 (pa_cons (pv 1) (pa_cons pe_int pa_nil))) pe_int (nomark _))
          (pss_one (ps_dput hu (pv 8) (pe_ix ix_list (pv 2) pe_int (fun _ _ => rfl)) (pe_op op_add (pe_dget hu (pv 3) (pe_ix ix_list (pv 2) pe_int (fun _ _ => rfl)) (fun _ _ => rfl)) pe_int) rfl)) pss_nil))) pss_nil)
      (pss_cons (ps_set (i := 10) nd rfl (.inl rfl) (pe_table2 T.tab hr5 (pa_cons (pv 8) (pa_cons (pv 9) pa_nil))))
      (pss_cons (ps_set (i := 11) nd rfl (.inl rfl) (pe_and (pe_cmpR (op_eqDic hu') (pe_cal T.less hr1 (pa_cons (pv 8) pa_nil)) (pe_cal T.less hr1 (pa_cons (pv 3) pa_nil)) (nomark _)) (pe_one (pe_cmpR (op_eqDic hu') (pe_cal T.less hr1 (pa_cons (pv 9) pa_nil)) (pe_cal T.less hr1 (pa_cons (pv 4) pa_nil)) (nomark _)))))
      (pss_cons (ps_if (PW.pt (pw_or (pt_cmpR op_ne (pe_cmpR (op_oeq T.oeq hr1) (pv 7) (pv 10) (nomark _)) (pv 11) (nomark _)) (pw_or (pt_cmpR op_ne (pe_cmpR (op_oeq T.oeq hr1) (pv 10) (pv 7) (nomark _)) (pv 11) (nomark _)) (pw_or1 (pt_cmpR op_eq (pe_cmpR (op_one T.oeq T.one T.osub hr2) (pv 7) (pv 10) (nomark _)) (pv 11) (nomark _)))))) (pss_one (ps_ret pe_bl)) pss_nil)
      (pss_cons (ps_set (i := 12) nd rfl (.inl rfl) (pe_callTy (call_dictP rfl) (by rfl) T.mD (by decide +kernel) (pa_cons (pe_lc (own := [("_law_name_here", 14)]) (g := gName 14) (tt := tYes) rfl nd (pi_list (pe_slice sl_list (pv 2) po_none (po_some pe_int)))
            (blkOk_by (N := lawN) (sc := defScope s_law) (by decide +kernel)) (fun _ _ _ _ _ => pg_name (i := 14) nd rfl (Or.inl rfl)) (fun _ _ _ _ _ => pts_nil) (fun _ _ _ _ _ => pe_tup (pa_cons (pv 14) (pa_cons (pe_op op_add (pe_dget2 hu (pv 3) (pv 14) pe_int ⟨rfl, rfl, rfl, rfl⟩) (pe_dget2 hu (pv 8) (pv 14) pe_int ⟨rfl, rfl, rfl, rfl⟩)) pa_nil)))) pa_nil)))
      (pss_cons (ps_set (i := 13) nd rfl (.inl rfl) (pe_callTy (call_dictP rfl) (by rfl) T.mD (by decide +kernel) (pa_cons (pe_lc (own := [("_law_name_here", 14)]) (g := gName 14) (tt := tYes) rfl nd (pi_list (pe_slice sl_list (pv 2) (po_some pe_int) po_none))
            (blkOk_by (N := lawN) (sc := defScope s_law) (by decide +kernel)) (fun _ _ _ _ _ => pg_name (i := 14) nd rfl (Or.inl rfl)) (fun _ _ _ _ _ => pts_nil) (fun _ _ _ _ _ => pe_tup (pa_cons (pv 14) (pa_cons (pe_op op_add (pe_dget2 hu (pv 4) (pv 14) pe_int ⟨rfl, rfl, rfl, rfl⟩) (pe_dget2 hu (pv 9) (pv 14) pe_int ⟨rfl, rfl, rfl, rfl⟩)) pa_nil)))) pa_nil)))
      (pss_cons (ps_if (PW.pt (pw_or (pt_not (pt_val (pe_cal T.right hr3 (pa_cons (pe_op (op_oadd T.oadd T.oself hr) (pv 7) (pv 10)) (pa_cons (pv 12) (pa_cons (pv 13) pa_nil)))))) (pw_or1 (pt_not (pt_val (pe_cal T.right hr3 (pa_cons (pv 7) (pa_cons (pv 3) (pa_cons (pv 4) pa_nil))))))))) (pss_one (ps_ret pe_bl)) pss_nil)
      (pss_cons (ps_if (PW.pt (pw_or (pt_cmpR (op_one T.oeq T.one T.osub hr2) (pe_table2 T.tab hr5 (pa_cons (pv 3) (pa_cons (pe_tup pa_nil) pa_nil))) (pe_table1 T.tab hr5 (pa_cons (pv 3) pa_nil)) (nomark _)) (pw_or1 (pt_cmpR (op_one T.oeq T.one T.osub hr2) (pe_table2 T.tab hr5 (pa_cons (pv 3) (pa_cons pe_dnewK pa_nil))) (pe_table2 T.tab hr5 (pa_cons (pv 3) (pa_cons (pe_lst pa_nil) pa_nil))) (nomark _))))) (pss_one (ps_ret pe_bl)) pss_nil)
      (pss_one (ps_ret (pe_and (pe_cmpR (op_oeq T.oeq hr1) (pe_table1 T.tab hr5 (pa_cons pe_dnewK pa_nil)) (pe_table2 T.tab hr5 (pa_cons pe_dnewK (pa_cons pe_dnewK pa_nil))) (nomark _))
        (pe_and (pe_cmpR op_eq (pe_m0 T.M.size cl hr1 (pe_table1 T.tab hr5 (pa_cons pe_dnewK pa_nil))) pe_int (nomark _)) (pe_and (pe_cmpR (op_one T.oeq T.one T.osub hr2) (pv 7) (pv 3) (nomark _)) (pe_one (pe_not (pe_cmpR (op_oeq T.oeq hr1) (pv 7) pe_non (nomark _)))))))))))))))))))))))))))), ?_⟩
    refine ⟨_, rfl, a, ns, rfl, hS, hlen, fun p H1 hp hs0 ks0 => ?_⟩
    show tSeq (tAsg (tCall (sp_names K) [] E0 (tCons (tVar 1) (tCons (tC (.int ((6 : Nat) : Int))) tNil))) (gName 2)) _ _ [some (V.ref a), some (V.ref p), none, none, none, none, none, none, none, none, none, none, none, none, none] H1
    refine asg_of ⟨_, rfl, p, 6, 0, rfl, hs0, by decide, by decide, fun q xs H2 l6 ndx drx hq hqe hs1 kp1 => ?_⟩
    obtain ⟨po, hpo⟩ := hs0.there
    have nqp : q ≠ p := fun e => by rw [e, hpo] at hq; cases hq
    show tSeq (tAsg (tCall (sp_lists K) [] E0 (tCons (tVar 1) (tCons (tVar 2) tNil))) (gTup K 2 (gCons (gName 3) (gCons (gName 4) gNil)))) _ _ [some (V.ref a), some (V.ref p), some (V.ref q), none, none, none, none, none, none, none, none, none, none, none, none] H2
    refine ⟨_, rfl, _, rfl, p, q, xs, 60, rfl, hs1, by decide, SqL.of hqe, nqp, l6, ndx, fun t d1 d2 N W H3 f1 f2 n12 kp2 hs2 ht h1 h2 kN kW nnN => ?_⟩
    refine ⟨t, _, rfl, SqT.of ht, rfl, _, _, rfl, _, _, rfl, rfl, nxs_of ?_⟩
    have hq3 := kp2 _ _ nqp hqe
    have sub4 : ∀ x ∈ ks N, x ∈ xs := fun x hx => by rw [kN] at hx; exact List.mem_of_mem_take hx
    have sub3 : ∀ x ∈ ks W, x ∈ xs := fun x hx => by rw [kW] at hx; exact List.mem_of_mem_drop hx
    have ndN : (ks N).Nodup := by rw [kN]; exact List.Nodup.sublist (List.take_sublist _ _) ndx
    have ndW : (ks W).Nodup := by rw [kW]; exact List.Nodup.sublist (List.drop_sublist _ _) ndx
    have lN : N.length = 4 := by
      have : (ks N).length = N.length := by unfold ks; rw [List.length_map]
      rw [← this, kN, List.length_take]
      omega
    have lW : W.length = 3 := by
      have : (ks W).length = W.length := by unfold ks; rw [List.length_map]
      rw [← this, kW, List.length_drop]
      omega
    have nmx : ∀ M : NI, (∀ x ∈ ks M, x ∈ xs) → ∀ r ∈ M, nameB r.1 = true := fun M h r hr => (drx _ (h _ (List.mem_map.mpr ⟨r, hr, rfl⟩))).1
    have nob : ("nobody" : Str) ∉ xs := fun h => nobody_not (drx _ h)
    have shw : ∀ {A M : NI}, A.Perm (nz M) → (ks M).Nodup → (∀ x ∈ ks M, x ∈ xs) → M.length ≤ 50 → Shows A M := fun {A M} pm nM hM lM =>
      ⟨pm, nM, fun x hx => (drx _ (hM _ hx)).1, lM, fun h => nob (hM _ h)⟩
    have oN : okNI N false := ⟨ndN, nmx N sub4, .inr nnN, by omega⟩
    have oW : okNI W true := ⟨ndW, nmx W sub3, .inl rfl, by omega⟩
    have kH3 : Keep p H1 H3 := kp1.trans kp2
    show tSeq (tPar 5 6 (tCons (tCB _ (tCons (tVar 3) tNil)) (tCons (tCB _ (tCons (tVar 4) tNil)) tNil))) _ _ [some (V.ref a), some (V.ref p), some (V.ref q), some (V.ref d1), some (V.ref d2), none, none, none, none, none, none, none, none, none, none] H3
    refine ⟨_, rfl, d1, N.map kvi, rfl, .inl h1, fun c1 hc1 => ⟨_, rfl, d2, W.map kvi, rfl, .inl (same_new hc1 _ _ h2), fun c2 hc2 => ⟨_, _, rfl, nxs_of ?_⟩⟩⟩
    have s4 : Same H3 (upd (upd H3 c1 (dI N)) c2 (dI W)) := (same_new hc1).trans (same_new hc2)
    have ec1 : (upd (upd H3 c1 (dI N)) c2 (dI W)) c1 = some (dI N) := same_new hc2 _ _ upd_same
    have ec2 : (upd (upd H3 c1 (dI N)) c2 (dI W)) c2 = some (dI W) := upd_same
    have hs4 : SrcAt (upd (upd H3 c1 (dI N)) c2 (dI W)) p 160 := (hs2.new hc1).new hc2
    show tSeq (tAsg (tIf (tOr (tTest (tOp rNeDic (tVar 4) tDNewK)) _) (tMake C (sp_tinit K C) [] E0 (tCons (tVar 5) (tCons (tVar 6) tNil))) _) (gName 7)) _ _ [some (V.ref a), some (V.ref p), some (V.ref q), some (V.ref d1), some (V.ref d2), some (V.ref c1), some (V.ref c2), none, none, none, none, none, none, none, none] (upd (upd H3 c1 (dI N)) c2 (dI W))
    generalize upd (upd H3 c1 (dI N)) c2 (dI W) = H4 at s4 ec1 ec2 hs4
    have e1 := s4 _ _ h1
    have e2 := s4 _ _ h2
    have eq4 := s4 _ _ hq3
    have wne : dicEq (W.map kvi) [] = false := by
      unfold dicEq
      rw [List.length_map, lW]
      rfl
    refine asg_of (or_of (test_of ⟨_, rfl, fun z0 hz0 => ⟨d2, z0, W.map kvi, [], rfl, rfl, .inl (same_new hz0 _ _ e2), .inl upd_same, flat_dI W, rfl, _, rfl, ?_⟩⟩))
    rw [wne]
    have s5 := same_new (o := .dK []) hz0
    refine iteT (iteT (tmake_of (i := 5) (j := 6) rfl rfl (.inl (s5 _ _ ec1)) oN (.inl (s5 _ _ ec2)) oW fun tt x1 x2 H5 ftt fx1 fx2 s6 tX => ?_))
    have s7 := s5.trans s6
    have fr5 : ∀ {c : Addr}, (upd H4 z0 (.dK [])) c = none → H4 c = none := fun {c} h => by
      cases e : H4 c with
      | none => rfl
      | some o => rw [s5 _ _ e] at h; cases h
    have gtt := fr5 ftt
    have gx1 := fr5 fx1
    have gx2 := fr5 fx2
    clear ftt fx1 fx2 s5 s6 hz0
    have ne_of : ∀ {Hx : Hp} {x y : Addr} {o : HO}, Hx x = none → Hx y = some o → y ≠ x := fun {Hx x y o} h1 h2 e => by rw [e, h1] at h2; cases h2
    show tSeq (tDrop (tBM0 K "dict" rDClear (tVar 5))) _ _ [some (V.ref a), some (V.ref p), some (V.ref q), some (V.ref d1), some (V.ref d2), some (V.ref c1), some (V.ref c2), some (V.ref tt), none, none, none, none, none, none, none] H5
    refine ⟨_, rfl, .inr (.inr (.inl ⟨rfl, .inl ⟨_, s7 _ _ ec1⟩⟩)), c1, _, rfl, rfl, s7 _ _ ec1, nxs_of ?_⟩
    have nc21 : c2 ≠ c1 := fun e => by
      rw [e, upd_same] at hc2
      cases hc2
    have hc2' : H3 c2 = none := by rwa [upd_ne nc21] at hc2
    have u1 : Keep c1 H5 (upd H5 c1 (.dK [])) := Keep.upd
    show tSeq (sDPut (tVar 6) (tC (.str "late")) (tC (.int 5))) _ _ [some (V.ref a), some (V.ref p), some (V.ref q), some (V.ref d1), some (V.ref d2), some (V.ref c1), some (V.ref c2), some (V.ref tt), none, none, none, none, none, none, none] (upd H5 c1 (.dK []))
    have ec2' : (upd H5 c1 (.dK [])) c2 = some (dI W) := u1 _ _ nc21 (s7 _ _ ec2)
    refine ⟨_, rfl, c2, _, rfl, DPut.k (k := .inr "late") ec2' (by rw [List.length_map, lW]; decide), nxs_of ?_⟩
    have u2 : Keep c2 (upd H5 c1 (.dK [])) (upd (upd H5 c1 (.dK [])) c2 (.dK (putK (W.map kvi) (.inr "late") (.int 5)))) := Keep.upd
    have npc1 : p ≠ c1 := by obtain ⟨o, ho⟩ := hs2.there; exact ne_of hc1 ho
    have npc2 : p ≠ c2 := by obtain ⟨o, ho⟩ := hs2.there; exact ne_of hc2' ho
    have tX7 := ((tX.keep u1 (ne_of gtt ec1).symm (ne_of gx1 ec1).symm (ne_of gx2 ec1).symm).keep u2 (ne_of gtt ec2).symm (ne_of gx1 ec2).symm (ne_of gx2 ec2).symm)
    have v1 := u2 _ _ (ne_of hc2' h1) (u1 _ _ (ne_of hc1 h1) (s7 _ _ e1))
    have v2 := u2 _ _ (ne_of hc2' h2) (u1 _ _ (ne_of hc1 h2) (s7 _ _ e2))
    have vq := u2 _ _ (ne_of hc2' hq3) (u1 _ _ (ne_of hc1 hq3) (s7 _ _ eq4))
    have vs : SrcAt (upd (upd H5 c1 (.dK [])) c2 (.dK (putK (W.map kvi) (.inr "late") (.int 5)))) p 160 := by
      obtain ⟨g, sd, cc, e, z⟩ := hs4
      exact ⟨g, sd, cc, u2 _ _ npc2 (u1 _ _ npc1 (s7 _ _ e)), z⟩
    generalize upd (upd H5 c1 (.dK [])) c2 (.dK (putK (W.map kvi) (.inr "late") (.int 5))) = H7 at tX7 v1 v2 vq vs
    clear u1 u2 ec2' tX s7 ec1 ec2 e1 e2 eq4 hs4 s4 gtt gx1 gx2 wne
    have sN : Shows (nz N) N := shw (List.Perm.refl _) ndN sub4 (by omega)
    have sW : Shows (nz W) W := shw (List.Perm.refl _) ndW sub3 (by omega)
    have lzN : (nz N).length ≤ 60 := Nat.le_trans (List.length_filter_le _ _) (by omega)
    have lzW : (nz W).length ≤ 60 := Nat.le_trans (List.length_filter_le _ _) (by omega)
    show tSeq (tIfS (tNot (tB (tCall (sp_isright C) [] E0 (tCons (tVar 7) (tCons (tVar 3) (tCons (tVar 4) tNil)))))) _ _) _ _ [some (V.ref a), some (V.ref p), some (V.ref q), some (V.ref d1), some (V.ref d2), some (V.ref c1), some (V.ref c2), some (V.ref tt), none, none, none, none, none, none, none] H7
    refine ifs_of ⟨_, rfl, _, rfl, _, rfl, tt, d1, d2, nz N, nz W, N, W, rfl, tX7.at_, v1, v2, sN, sW, fun H8 s8 => ⟨true, rfl, iteF (nx_of ?_)⟩⟩
    obtain ⟨dx, j1, j2, j3⟩ := tX7
    show tSeq (tDrop _) _ _ [some (V.ref a), some (V.ref p), some (V.ref q), some (V.ref d1), some (V.ref d2), some (V.ref c1), some (V.ref c2), some (V.ref tt), none, none, none, none, none, none, none] H8
    refine ⟨_, rfl, tt, dx, _, rfl, s8 _ _ j1, rfl, tt, nz N, nz W, rfl, ⟨dx, x1, x2, s8 _ _ j1, s8 _ _ j2, s8 _ _ j3⟩, lzN, lzW, fun ys pp pm so hpp => ⟨.inl ⟨rfl, _, SqL.of upd_same⟩, pp, _, _, rfl, rfl, upd_same, ?_, nxs_of ?_⟩⟩
    · rw [List.length_map, pm.length_eq, sizeLine_eq]
      have : (ks (nz N)).length = (nz N).length := by unfold ks; rw [List.length_map]
      show (ks (nz N)).length < _
      omega
    have s9 : Same H7 (upd (upd H8 pp (.lst (ys.map V.str))) pp (.lst (ys.map V.str ++ [V.str "late"]))) := s8.trans fun c o e => by
      rw [upd_ne (ne_of_none e hpp), upd_ne (ne_of_none e hpp)]
      exact e
    show tSeq (tDrop _) _ _ [some (V.ref a), some (V.ref p), some (V.ref q), some (V.ref d1), some (V.ref d2), some (V.ref c1), some (V.ref c2), some (V.ref tt), none, none, none, none, none, none, none] (upd (upd H8 pp (.lst (ys.map V.str))) pp (.lst (ys.map V.str ++ [V.str "late"])))
    generalize upd (upd H8 pp (.lst (ys.map V.str))) pp (.lst (ys.map V.str ++ [V.str "late"])) = H9 at s9
    refine ⟨_, rfl, tt, dx, _, rfl, s9 _ _ j1, rfl, tt, nz N, nz W, rfl, ⟨dx, x1, x2, s9 _ _ j1, s9 _ _ j2, s9 _ _ j3⟩, lzN, lzW, fun ys2 pp2 pm2 so2 hpp2 => ⟨.inl ⟨rfl, _, SqL.of upd_same⟩, pp2, _, rfl, rfl, upd_same, nxs_of ?_⟩⟩
    have s10 : Same H7 (upd (upd H9 pp2 (.lst (ys2.map V.str))) pp2 (.lst [])) := s9.trans fun c o e => by
      rw [upd_ne (ne_of_none e hpp2), upd_ne (ne_of_none e hpp2)]
      exact e
    show tSeq (tAsg (tCall (sp_lists K) [] E0 (tCons (tVar 1) (tCons (tVar 2) tNil))) (gTup K 2 (gCons (gName 8) (gCons (gName 9) gNil)))) _ _ [some (V.ref a), some (V.ref p), some (V.ref q), some (V.ref d1), some (V.ref d2), some (V.ref c1), some (V.ref c2), some (V.ref tt), none, none, none, none, none, none, none] (upd (upd H9 pp2 (.lst (ys2.map V.str))) pp2 (.lst []))
    generalize upd (upd H9 pp2 (.lst (ys2.map V.str))) pp2 (.lst []) = H10 at s10
    have tX10 : TabX H10 C tt (nz N) (nz W) x1 x2 := ⟨dx, s10 _ _ j1, s10 _ _ j2, s10 _ _ j3⟩
    have w1 := s10 _ _ v1
    have w2 := s10 _ _ v2
    have wq := s10 _ _ vq
    have ws : SrcAt H10 p 160 := by
      obtain ⟨g, sd, cc, e, z⟩ := vs
      exact ⟨g, sd, cc, s10 _ _ e, z⟩
    clear s8 s9 s10 hpp hpp2 j1 j2 j3 v1 v2 vq vs
    refine ⟨_, rfl, _, rfl, p, q, xs, 160, rfl, ws, by decide, SqL.of wq, nqp, l6, ndx, fun t2 g1 g2 M Rr H11 fg1 fg2 ng12 kp3 hs3 ht2 y1 y2 kM kR nnM => ⟨t2, _, rfl, SqT.of ht2, rfl, _, _, rfl, _, _, rfl, rfl, nxs_of ?_⟩⟩
    obtain ⟨wg, wsd, wcc, wpe, _⟩ := id ws
    have npl : ∀ {x : Addr} {o : HO}, H10 x = some o → (∀ l, o ≠ .lst l) → x ≠ p := fun {x o} h1 h2 e => by
      rw [e, wpe] at h1
      exact h2 _ (Option.some.inj h1).symm
    have tX11 : TabX H11 C tt (nz N) (nz W) x1 x2 := by
      obtain ⟨dx, j1, j2, j3⟩ := tX10
      exact ⟨dx, kp3 _ _ (npl j1 (fun l e => by cases e)) j1, kp3 _ _ (npl j2 (fun l e => by cases e)) j2, kp3 _ _ (npl j3 (fun l e => by cases e)) j3⟩
    have z1 := kp3 _ _ (npl w1 (fun l e => by cases e)) w1
    have z2 := kp3 _ _ (npl w2 (fun l e => by cases e)) w2
    have zq := kp3 _ _ nqp wq
    have ndM : (ks M).Nodup := by rw [kM]; exact List.Nodup.sublist (List.take_sublist _ _) ndx
    have ndR : (ks Rr).Nodup := by rw [kR]; exact List.Nodup.sublist (List.drop_sublist _ _) ndx
    have lM : M.length = 4 := by
      have : (ks M).length = M.length := by unfold ks; rw [List.length_map]
      rw [← this, kM, List.length_take]
      omega
    have lR : Rr.length = 3 := by
      have : (ks Rr).length = Rr.length := by unfold ks; rw [List.length_map]
      rw [← this, kR, List.length_drop]
      omega
    have t4x : ∀ x ∈ xs.take 4, x ∈ xs := fun x h => List.mem_of_mem_take h
    have d3x : ∀ x ∈ xs.drop 3, x ∈ xs := fun x h => List.mem_of_mem_drop h
    have mo0 : More H11 xs g1 g2 M Rr := ⟨y1, y2, ⟨ndM, nmx M (fun x h => t4x x (by rw [← kM]; exact h)), .inr nnM, by omega⟩, ⟨ndR, nmx Rr (fun x h => d3x x (by rw [← kR]; exact h)), .inl rfl, by omega⟩, fun x h => by rw [← kM]; exact h, fun x h => by rw [← kR]; exact h, by omega, by omega⟩
    show tSeq (tIfS (tTest (tOp rEq (tCall sp_draw [] E0 (tCons (tVar 1) (tCons (tC (.int 2)) tNil))) (tC (.int 0)))) _ _) _ _ [some (V.ref a), some (V.ref p), some (V.ref q), some (V.ref d1), some (V.ref d2), some (V.ref c1), some (V.ref c2), some (V.ref tt), some (V.ref g1), some (V.ref g2), none, none, none, none, none] H11
    refine gen_of (P := fun σ' H' => ∃ (m r : Addr) (M' R' : NI), σ' = [some (V.ref a), some (V.ref p), some (V.ref q), some (V.ref d1), some (V.ref d2), some (V.ref c1), some (V.ref c2), some (V.ref tt), some (V.ref m), some (V.ref r), none, none, none, none, none] ∧ More H' xs m r M' R' ∧ TabX H' C tt (nz N) (nz W) x1 x2 ∧ H' d1 = some (dI N) ∧ H' d2 = some (dI W) ∧ H' q = some (.lst (xs.map V.str))) (fun Z hZ => ?_) (fun σ' H' hP => ?_)
    · refine ifs_of (test_of (draw_of rfl hs3 (by decide) (by decide) (by decide +kernel) fun j1 H12 j10 j11 hs4 k4 => ?_))
      obtain ⟨vg, vsd, vcc, vpe, _⟩ := id hs3
      have npl2 : ∀ {x : Addr} {o : HO}, H11 x = some o → (∀ l, o ≠ .lst l) → x ≠ p := fun {x o} h1 h2 e => by
        rw [e, vpe] at h1
        exact h2 _ (Option.some.inj h1).symm
      have k4' : ∀ {x : Addr} {o : HO}, H11 x = some o → (∀ l, o ≠ .lst l) → H12 x = some o := fun {x o} h1 h2 => k4 _ _ (npl2 h1 h2) h1
      have tX12 : TabX H12 C tt (nz N) (nz W) x1 x2 := by
        obtain ⟨dx, j1, j2, j3⟩ := tX11
        exact ⟨dx, k4' j1 (fun l e => by cases e), k4' j2 (fun l e => by cases e), k4' j3 (fun l e => by cases e)⟩
      have b1 := k4' z1 (fun l e => by cases e)
      have b2 := k4' z2 (fun l e => by cases e)
      have bq := k4 _ _ nqp zq
      have mo1 : More H12 xs g1 g2 M Rr := ⟨k4' mo0.hm (fun l e => by cases e), k4' mo0.hr (fun l e => by cases e), mo0.om, mo0.or_, mo0.km, mo0.kr, mo0.lm, mo0.lr⟩
      refine ⟨rfl, _, rfl, ite_of (fun _ => ?_) (fun _ => nx_of (hZ _ _ ⟨g1, g2, M, Rr, rfl, mo1, tX12, b1, b2, bq⟩))⟩
      show tSeq (tAsg (tTup (tCons (tCall sp_less [] E0 (tCons (tVar 3) tNil)) (tCons (tCB _ (tCons (tLc (iList K (tRevL K (tCB _ (tCons (tVar 4) tNil)))) (gName 14) tYes (tTup (tCons (tVar 14) (tCons (tDGet (tVar 4) (tVar 14)) tNil))) [14]) tNil)) tNil))) (gTup K 2 (gCons (gName 8) (gCons (gName 9) gNil)))) _ _ [some (V.ref a), some (V.ref p), some (V.ref q), some (V.ref d1), some (V.ref d2), some (V.ref c1), some (V.ref c2), some (V.ref tt), some (V.ref g1), some (V.ref g2), none, none, none, none, none] H12
      refine ⟨_, rfl, d1, N, rfl, b1, ndN, by omega, fun l1 L H13 hl1 s13 eL hLess lL => ?_⟩
      refine ⟨_, rfl, d2, W.map kvi, ks W, rfl, .inl (s13 _ _ b2), keys_kvi W, (by unfold ks; rw [List.length_map]; omega), fun ys r1 pm3 so3 hr1' => ?_⟩
      refine ⟨r1, _, rfl, SqL.of upd_same, fun r2 hr2' => ?_⟩
      rw [← List.map_reverse]
      refine ⟨r2, rfl, ⟨_, SqL.of upd_same⟩, fun D2 hD2 => ?_⟩
      have t13 : Same H12 (upd (upd H13 r1 (.lst (ys.map V.str))) r2 (.lst (ys.reverse.map V.str))) := s13.trans ((same_new hr1').trans (same_new hr2'))
      have eL13 : (upd (upd H13 r1 (.lst (ys.map V.str))) r2 (.lst (ys.reverse.map V.str))) l1 = some (dI L) := same_new hr2' _ _ (same_new hr1' _ _ eL)
      have er2 : (upd (upd H13 r1 (.lst (ys.map V.str))) r2 (.lst (ys.reverse.map V.str))) r2 = some (.lst (ys.reverse.map V.str)) := upd_same
      generalize upd (upd H13 r1 (.lst (ys.map V.str))) r2 (.lst (ys.reverse.map V.str)) = H14 at t13 eL13 er2 hD2
      have n2 : r2 ≠ d2 := fun e => by
        have := t13 _ _ b2
        rw [← e, er2] at this
        cases this
      have ly : ys.length = 3 := by
        rw [pm3.length_eq]
        unfold ks
        rw [List.length_map, lW]
      refine lcp_of (K := K) (σ := [some (V.ref a), some (V.ref p), some (V.ref q), some (V.ref d1), some (V.ref d2), some (V.ref c1), some (V.ref c2), some (V.ref tt), some (V.ref g1), some (V.ref g2), none, none, none, none, none]) (p := d2) (S := fun _ H' => H' d2 = some (dI W)) (good := fun x v => v = get0 W x) (b := fun _ => true) (by show 14 < 15; decide) (SqL.of er2) n2 (by rw [List.length_reverse]; omega) (fun _ _ h => ⟨_, h⟩) (t13 _ _ b2) (fun _ H q o ne h => by rw [upd_ne ne.symm]; exact h) (fun _ _ h => h)
        (fun _ _ _ _ _ _ _ h => yes_of h) (fun x hx i H' Q' hi hS kp kk => ?_) hD2 ?_
      · have hxk : x ∈ ks W := pm3.mem_iff.mp (List.mem_reverse.mp hx)
        refine ⟨_, rfl, _, rfl, d2, .int (get0 W x), rfl, ?_, kk _ H' rfl hS (Keep.refl _ _)⟩
        have := DGet.k (k := .inr x) hS
        rw [valV_kvi, get?_in hxk] at this
        exact this
      intro A1 H15 kp5 hS5 hk5 hg5 ⟨ts5, hd5, hP5⟩
      rw [filt_true] at hk5
      have nA1 : (ks A1).Nodup := by rw [hk5]; exact (List.reverse_perm ys).nodup_iff.mpr (pm3.nodup_iff.mpr ndW)
      refine ⟨D2, ts5, A1.map kvi, rfl, SqL.of hd5, paired_kvi hP5, fun d' hd' => ?_⟩
      rw [mergeK_nil nA1]
      have s15 : Same H14 H15 := fun c o e => by
        by_cases ec : c = d2
        · subst ec
          have := t13 _ _ b2
          rw [this] at e
          rw [← Option.some.inj e]
          exact hS5
        · exact kp5 _ _ ec e
      have ndl : d' ≠ l1 := fun e => by
        have := s15 _ _ eL13
        rw [← e, hd'] at this
        cases this
      refine ⟨(by show 2 ≤ sizeLine; decide), fun tA htA => ?_⟩
      have s16 : Same H12 (upd (upd H15 d' (dI A1)) tA (.tup [V.ref l1, V.ref d'])) := t13.trans (s15.trans ((same_new hd').trans (same_new htA)))
      have eL16 : (upd (upd H15 d' (dI A1)) tA (.tup [V.ref l1, V.ref d'])) l1 = some (dI L) := same_new htA _ _ (same_new hd' _ _ (s15 _ _ eL13))
      have eR16 : (upd (upd H15 d' (dI A1)) tA (.tup [V.ref l1, V.ref d'])) d' = some (dI A1) := same_new htA _ _ upd_same
      refine ⟨tA, _, rfl, SqT.of upd_same, rfl, _, _, rfl, _, _, rfl, rfl, nxs_of ?_⟩
      show tIfS (tTest (tOp rEq (tCall sp_draw [] E0 (tCons (tVar 1) (tCons (tC (.int 2)) tNil))) (tC (.int 0)))) _ _ _ [some (V.ref a), some (V.ref p), some (V.ref q), some (V.ref d1), some (V.ref d2), some (V.ref c1), some (V.ref c2), some (V.ref tt), some (V.ref l1), some (V.ref d'), none, none, none, none, none] (upd (upd H15 d' (dI A1)) tA (.tup [V.ref l1, V.ref d']))
      generalize upd (upd H15 d' (dI A1)) tA (.tup [V.ref l1, V.ref d']) = H16 at s16 eL16 eR16
      have hs16 : SrcAt H16 p 261 := by
        obtain ⟨g, sd, cc, e, z⟩ := hs4
        exact ⟨g, sd, cc, s16 _ _ e, z⟩
      have kL : ∀ x ∈ ks L, x ∈ xs.take 4 := fun x h => by
        rw [← kN]
        exact nz_ks (hLess.1.mem_iff.mp h)
      have kA1 : ∀ x ∈ ks A1, x ∈ xs.drop 3 := fun x h => by
        rw [← kW]
        rw [hk5] at h
        exact pm3.mem_iff.mp (List.mem_reverse.mp h)
      have oL : okNI L false := ⟨hLess.2.2.2.2, nmx L (fun x h => t4x x (kL x h)), .inr fun r hr => by
        rw [val_get0 hLess.2.2.2.2 hr, hLess.2.2.1]
        exact get0_nn oN _, by omega⟩
      have lL4 : L.length ≤ 4 := by
        have h1 : (ks L).length = L.length := by unfold ks; rw [List.length_map]
        have h2 : (ks (nz N)).length = (nz N).length := by unfold ks; rw [List.length_map]
        have h3 : (nz N).length ≤ N.length := List.length_filter_le _ _
        have h4 := hLess.1.length_eq
        omega
      have lA1 : A1.length = 3 := by
        have h1 : (ks A1).length = A1.length := by unfold ks; rw [List.length_map]
        rw [← h1, hk5, List.length_reverse, ly]
      have oA1 : okNI A1 true := ⟨nA1, nmx A1 (fun x h => d3x x (kA1 x h)), .inl rfl, by omega⟩
      have mo2 : More H16 xs l1 d' L A1 := ⟨eL16, eR16, oL, oA1, kL, kA1, by omega, by omega⟩
      refine if1_of (test_of (draw_of rfl hs16 (by decide) (by decide) (by decide +kernel) fun j2 H17 j20 j21 hs17 k17 => ?_))
      obtain ⟨ug, usd, ucc, upe, _⟩ := id hs16
      have k17' : ∀ {x : Addr} {o : HO}, H16 x = some o → (∀ l, o ≠ .lst l) → H17 x = some o := fun {x o} h1 h2 => k17 _ _ (fun e => by
        rw [e, upe] at h1
        exact h2 _ (Option.some.inj h1).symm) h1
      have mo3 : More H17 xs l1 d' L A1 := ⟨k17' mo2.hm (fun l e => by cases e), k17' mo2.hr (fun l e => by cases e), mo2.om, mo2.or_, mo2.km, mo2.kr, mo2.lm, mo2.lr⟩
      have tX17 : TabX H17 C tt (nz N) (nz W) x1 x2 := by
        obtain ⟨dx, j1, j2, j3⟩ := tX12.same s16
        exact ⟨dx, k17' j1 (fun l e => by cases e), k17' j2 (fun l e => by cases e), k17' j3 (fun l e => by cases e)⟩
      have b17 := k17' (s16 _ _ b1) (fun l e => by cases e)
      have b27 := k17' (s16 _ _ b2) (fun l e => by cases e)
      have bq7 := k17 _ _ nqp (s16 _ _ bq)
      refine ⟨rfl, _, rfl, ite_of (fun _ => ?_) (fun _ => nx_of (hZ _ _ ⟨l1, d', L, A1, rfl, mo3, tX17, b17, b27, bq7⟩))⟩
      obtain ⟨x0, hx0⟩ : ∃ x0, xs[0]? = some x0 := ⟨xs[0]'(by omega), List.getElem?_eq_getElem _⟩
      have hx4 : x0 ∈ xs.take 4 := List.mem_of_getElem? (i := 0) (by rw [List.getElem?_take_of_lt (by decide)]; exact hx0)
      have gx0 : get? N x0 = some (get0 N x0) := get?_in (by rw [kN]; exact hx4)
      have at0 : atI (xs.map V.str) ((0 : Nat) : Int) = some (V.str x0) := atI_nat (by rw [List.getElem?_map, hx0]; rfl)
      have dg0 : DGet H17 d1 (.str x0) (some (.int (get0 N x0))) := by
        have := DGet.k (k := .inr x0) b17
        rw [valV_kvi, gx0] at this
        exact this
      refine ⟨_, rfl, _, rfl, q, _, _, _, rfl, rfl, SqL.of bq7, at0, d1, _, rfl, dg0, ⟨get0 N x0, 1, rfl, rfl, _, rfl, _, rfl, q, _, _, _, rfl, rfl, SqL.of bq7, at0, l1, _, rfl, DPut.k (k := .inr x0) mo3.hm (by rw [List.length_map]; have := mo3.lm; rw [sizeLine_eq]; omega), nxs_of (hZ _ _ ⟨l1, d', putI L x0 (get0 N x0 + 1), A1, rfl, ?_, ?_⟩)⟩⟩
      · obtain ⟨nP, mP⟩ := putI_keys x0 (get0 N x0 + 1) oL.1
        have kP : ∀ x ∈ ks (putI L x0 (get0 N x0 + 1)), x ∈ xs.take 4 := fun x h => by
          rcases (mP x).mp h with h | h
          · exact kL x h
          · rw [h]
            exact hx4
        have lP := putI_len L x0 (get0 N x0 + 1)
        refine ⟨?_, ?_, ⟨nP, nmx _ (fun x h => t4x x (kP x h)), .inr fun r hr => ?_, by omega⟩, oA1, kP, kA1, by omega, by omega⟩
        · rw [upd_same, putK_kvi]
          rfl
        · rw [upd_ne ndl]
          exact mo3.hr
        · rcases putI_mem hr with e | h
          · rw [e]
            have := get0_nn oN x0
            show 0 ≤ get0 N x0 + 1
            omega
          · rcases oL.2.2.1 with h2 | h2
            · cases h2
            · exact h2 r h
      · obtain ⟨dx, j1, j2, j3⟩ := id tX12
        exact ⟨tX17.keep Keep.upd (ne_of hl1 j1) (ne_of hl1 j2) (ne_of hl1 j3), by rw [upd_ne (ne_of hl1 b1)]; exact b17, by rw [upd_ne (ne_of hl1 b2)]; exact b27, by rw [upd_ne (ne_of hl1 bq)]; exact bq7⟩
    · obtain ⟨m, r, M', R', es, mo, tY, q1, q2, qq⟩ := hP
      subst es
      have T' := T.tab.T
      have oM := mo.om
      have oR := mo.or_
      show tSeq (tAsg (tMake C (sp_tinit K C) [] E0 (tCons (tVar 8) (tCons (tVar 9) tNil))) (gName 10)) _ _ [some (V.ref a), some (V.ref p), some (V.ref q), some (V.ref d1), some (V.ref d2), some (V.ref c1), some (V.ref c2), some (V.ref tt), some (V.ref m), some (V.ref r), none, none, none, none, none] H'
      refine asg_of (tmake_of (i := 8) (j := 9) rfl rfl (.inl mo.hm) oM (.inl mo.hr) oR fun uu y1 y2 H21 fu fy1 fy2 s21 tU => ?_)
      have tY := tY.same s21
      have q1 := s21 _ _ q1
      have q2 := s21 _ _ q2
      have qq := s21 _ _ qq
      have mo := mo.same s21
      clear s21 fu fy1 fy2
      obtain ⟨sm, hsm⟩ : ∃ sm, sm = (eqI (nz N) (nz M') && eqI (nz W) (nz R')) := ⟨_, rfl⟩
      show tSeq (tAsg (tAndV (tOp rEqDic (tCall sp_less [] E0 (tCons (tVar 8) tNil)) (tCall sp_less [] E0 (tCons (tVar 3) tNil))) (tOp rEqDic (tCall sp_less [] E0 (tCons (tVar 9) tNil)) (tCall sp_less [] E0 (tCons (tVar 4) tNil)))) (gName 11)) _ _ [some (V.ref a), some (V.ref p), some (V.ref q), some (V.ref d1), some (V.ref d2), some (V.ref c1), some (V.ref c2), some (V.ref tt), some (V.ref m), some (V.ref r), some (V.ref uu), none, none, none, none] H21
      refine gen_of (P := fun σ' H' => Same H21 H' ∧ σ' = [some (V.ref a), some (V.ref p), some (V.ref q), some (V.ref d1), some (V.ref d2), some (V.ref c1), some (V.ref c2), some (V.ref tt), some (V.ref m), some (V.ref r), some (V.ref uu), some (V.bl sm), none, none, none]) (fun Z hZ => ?_) (fun σ' H' hP => ?_)
      · refine asg_of ⟨_, rfl, m, M', rfl, mo.hm, oM.1, (by have := mo.lm; omega), fun l1 L1 H22 _ s22 eL1 le1 _ => ⟨_, rfl, d1, N, rfl, s22 _ _ q1, ndN, (by omega), fun l2 L2 H23 _ s23 eL2 le2 _ => ⟨l1, l2, _, _, rfl, rfl, .inl (s23 _ _ eL1), .inl eL2, flat_dI _, flat_dI _, _, rfl, ?_⟩⟩⟩
        have e12 : dicEq (L1.map kvi) (L2.map kvi) = eqI (nz N) (nz M') := eqI_less le1 le2 oM.1 ndN
        rw [e12]
        have s223 := s22.trans s23
        refine ite_of (fun ct => ?_) (fun cf => ?_)
        · refine ⟨_, rfl, r, R', rfl, s223 _ _ mo.hr, oR.1, (by have := mo.lr; omega), fun l3 L3 H24 _ s24 eL3 le3 _ => ⟨_, rfl, d2, W, rfl, s24 _ _ (s223 _ _ q2), ndW, (by omega), fun l4 L4 H25 _ s25 eL4 le4 _ => ⟨l3, l4, _, _, rfl, rfl, .inl (s25 _ _ eL3), .inl eL4, flat_dI _, flat_dI _, ?_⟩⟩⟩
          have e34 : dicEq (L3.map kvi) (L4.map kvi) = eqI (nz W) (nz R') := eqI_less le3 le4 oR.1 ndW
          rw [e34]
          have es : eqI (nz W) (nz R') = sm := by rw [hsm, ct, Bool.true_and]
          rw [es]
          exact hZ _ _ ⟨(s223.trans s24).trans s25, rfl⟩
        · have es : false = sm := by rw [hsm, cf, Bool.false_and]
          rw [es]
          exact hZ _ _ ⟨s223, rfl⟩
      obtain ⟨s26, es⟩ := hP
      subst es
      have tY := tY.same s26
      have tU := tU.same s26
      have q1 := s26 _ _ q1
      have q2 := s26 _ _ q2
      have qq := s26 _ _ qq
      have mo := mo.same s26
      clear s26
      obtain ⟨dx, j1, j2, j3⟩ := id tY
      obtain ⟨dy, i1, i2, i3⟩ := id tU
      have cm1 : eqI (nz M') (nz N) = eqI (nz N) (nz M') := eqI_comm (nz_nodup oM.1) (nz_nodup ndN)
      have cm2 : eqI (nz R') (nz W) = eqI (nz W) (nz R') := eqI_comm (nz_nodup oR.1) (nz_nodup ndW)
      show tSeq (tIfS (tOr (tTest (tOp rNe (tOp (rOwnEq K C (sp_teq K C)) (tVar 7) (tVar 10)) (tVar 11))) (tOr (tTest (tOp rNe (tOp (rOwnEq K C (sp_teq K C)) (tVar 10) (tVar 7)) (tVar 11))) (tTest (tOp rEq (tOp (rOwnNe K C (sp_teq K C)) (tVar 7) (tVar 10)) (tVar 11))))) _ _) _ _ [some (V.ref a), some (V.ref p), some (V.ref q), some (V.ref d1), some (V.ref d2), some (V.ref c1), some (V.ref c2), some (V.ref tt), some (V.ref m), some (V.ref r), some (V.ref uu), some (V.bl sm), none, none, none] H'
      refine ifs_of (or_of (test_of ⟨_, rfl, _, rfl, tt, dx, _, rfl, j1, .inl ⟨uu, dy, _, rfl, i1⟩, tt, .ref uu, nz N, nz W, rfl, tY.at_, .inl ⟨uu, nz M', nz R', rfl, tU.at_, _, rfl, ?_⟩⟩))
      rw [← hsm]
      refine ⟨_, rfl, rfl, false, by rw [decide_eq_true rfl]; rfl, iteF ?_⟩
      refine or_of (test_of ⟨_, rfl, _, rfl, uu, dy, _, rfl, i1, .inl ⟨tt, dx, _, rfl, j1⟩, uu, .ref tt, nz M', nz R', rfl, tU.at_, .inl ⟨tt, nz N, nz W, rfl, tY.at_, _, rfl, ?_⟩⟩)
      rw [cm1, cm2, ← hsm]
      refine ⟨_, rfl, rfl, false, by rw [decide_eq_true rfl]; rfl, iteF ?_⟩
      refine test_of ⟨_, rfl, _, rfl, tt, dx, _, rfl, j1, .inl ⟨uu, dy, _, rfl, i1⟩, tt, .ref uu, nz N, nz W, rfl, tY.at_, .inl ⟨uu, nz M', nz R', rfl, tU.at_, _, rfl, ?_⟩⟩
      rw [← hsm]
      refine ⟨_, rfl, rfl, false, by cases sm <;> rfl, iteF (nx_of ?_)⟩
      show tSeq (tAsg (tCB _ (tCons (tLc (iList K (tSl (rSlL K) (tVar 2) tNoPart (tPart (tC (.int ((4 : Nat) : Int)))))) (gName 14) tYes _ [14]) tNil)) (gName 12)) _ _ [some (V.ref a), some (V.ref p), some (V.ref q), some (V.ref d1), some (V.ref d2), some (V.ref c1), some (V.ref c2), some (V.ref tt), some (V.ref m), some (V.ref r), some (V.ref uu), some (V.bl sm), none, none, none] H'
      refine asg_of ⟨_, rfl, _, rfl, q, _, rfl, SqL.of qq, fun b1 hb1 => ?_⟩
      rw [cutV_take]
      refine ⟨b1, rfl, ⟨_, SqL.of upd_same⟩, fun D1 hD1 => ?_⟩
      have sb1 := same_new (o := .lst ((xs.take 4).map V.str)) hb1
      refine two_sums (K := K) (σ := [some (V.ref a), some (V.ref p), some (V.ref q), some (V.ref d1), some (V.ref d2), some (V.ref c1), some (V.ref c2), some (V.ref tt), some (V.ref m), some (V.ref r), some (V.ref uu), some (V.bl sm), none, none, none]) (i := 3) (j := 8) (by show 14 < 15; decide) rfl rfl (by decide) (by decide) upd_same (by rw [List.length_take]; omega) (sb1 _ _ q1) (sb1 _ _ mo.hm) hD1 ?_
      intro Bo H30 s30 kBo vBo ⟨ts30, hd30, hP30⟩
      have nBo : (ks Bo).Nodup := by rw [kBo]; exact List.Nodup.sublist (List.take_sublist _ _) ndx
      refine ⟨D1, ts30, Bo.map kvi, rfl, SqL.of hd30, paired_kvi hP30, fun bo hbo => ?_⟩
      rw [mergeK_nil nBo]
      have s31 : Same H' (upd H30 bo (dI Bo)) := (sb1.trans s30).trans (same_new hbo)
      have eBo : (upd H30 bo (dI Bo)) bo = some (dI Bo) := upd_same
      show tSeq (tAsg (tCB _ (tCons (tLc (iList K (tSl (rSlL K) (tVar 2) (tPart (tC (.int ((3 : Nat) : Int)))) tNoPart)) (gName 14) tYes _ [14]) tNil)) (gName 13)) _ _ [some (V.ref a), some (V.ref p), some (V.ref q), some (V.ref d1), some (V.ref d2), some (V.ref c1), some (V.ref c2), some (V.ref tt), some (V.ref m), some (V.ref r), some (V.ref uu), some (V.bl sm), some (V.ref bo), none, none] (upd H30 bo (dI Bo))
      generalize upd H30 bo (dI Bo) = H31 at s31 eBo
      refine asg_of ⟨_, rfl, _, rfl, q, _, rfl, SqL.of (s31 _ _ qq), fun b2 hb2 => ?_⟩
      rw [cutV_drop]
      refine ⟨b2, rfl, ⟨_, SqL.of upd_same⟩, fun D2 hD2 => ?_⟩
      have sb2 := same_new (o := .lst ((xs.drop 3).map V.str)) hb2
      refine two_sums (K := K) (σ := [some (V.ref a), some (V.ref p), some (V.ref q), some (V.ref d1), some (V.ref d2), some (V.ref c1), some (V.ref c2), some (V.ref tt), some (V.ref m), some (V.ref r), some (V.ref uu), some (V.bl sm), some (V.ref bo), none, none]) (i := 4) (j := 9) (by show 14 < 15; decide) rfl rfl (by decide) (by decide) upd_same (by rw [List.length_drop]; omega) (sb2 _ _ (s31 _ _ q2)) (sb2 _ _ (s31 _ _ mo.hr)) hD2 ?_
      intro En H32 s32 kEn vEn ⟨ts32, hd32, hP32⟩
      have nEn : (ks En).Nodup := by rw [kEn]; exact List.Nodup.sublist (List.drop_sublist _ _) ndx
      refine ⟨D2, ts32, En.map kvi, rfl, SqL.of hd32, paired_kvi hP32, fun en hen => ?_⟩
      rw [mergeK_nil nEn]
      have s33' : Same H31 (upd H32 en (dI En)) := (sb2.trans s32).trans (same_new hen)
      have eEn : (upd H32 en (dI En)) en = some (dI En) := upd_same
      have eBo' := s33' _ _ eBo
      have s33 := s31.trans s33'
      show tSeq (tIfS (tOr (tNot (tB (tCall (sp_isright C) [] E0 (tCons (tOp (rOwnOp C (sp_tadd K C)) (tVar 7) (tVar 10)) (tCons (tVar 12) (tCons (tVar 13) tNil)))))) (tNot (tB (tCall (sp_isright C) [] E0 (tCons (tVar 7) (tCons (tVar 3) (tCons (tVar 4) tNil))))))) _ _) _ _ [some (V.ref a), some (V.ref p), some (V.ref q), some (V.ref d1), some (V.ref d2), some (V.ref c1), some (V.ref c2), some (V.ref tt), some (V.ref m), some (V.ref r), some (V.ref uu), some (V.bl sm), some (V.ref bo), some (V.ref en), none] (upd H32 en (dI En))
      generalize upd H32 en (dI En) = H33 at s33 eEn eBo'
      have tY := tY.same s33
      have tU := tU.same s33
      have q1 := s33 _ _ q1
      have q2 := s33 _ _ q2
      have mo := mo.same s33
      obtain ⟨dx, j1, j2, j3⟩ := id tY
      obtain ⟨dy, i1, i2, i3⟩ := id tU
      clear s33 s33' s31 sb2 s32 sb1 s30 hD1 hD2 hb1 hb2 hbo hen
      have lz : ∀ (A : NI), (nz A).length ≤ A.length := fun A => List.length_filter_le _ _
      have cmp : ∀ {S Bo A A' : NI} {ys : List Str}, (ks S).Nodup → (ks Bo).Nodup → (ks A).Nodup → (ks A').Nodup → ks Bo = ys → (∀ q ∈ Bo, q.2 = get0 A q.1 + get0 A' q.1) → (∀ x ∈ ks A, x ∈ ys) → (∀ x ∈ ks A', x ∈ ys) → (∀ x, get0 S x = get0 (nz A) x + get0 (nz A') x) → (nz S).Perm (nz Bo) := by
        intro S Bo A A' ys nS nB nA nA' hB vB hA hA' vS
        refine perm_of_get0 (nz_nodup nS) (nz_nodup nB) (nz_noZ _) (nz_noZ _) fun x => ?_
        rw [get0_nz nS, get0_nz nB, vS, get0_nz nA, get0_nz nA']
        by_cases hx : x ∈ ks Bo
        · obtain ⟨q, hq, e⟩ := List.mem_map.mp hx
          have h1 := vB q hq
          rw [val_get0 nB hq] at h1
          rw [← e]
          exact h1.symm
        · rw [get0_none hx, get0_none (fun h => hx (hB ▸ hA x h)), get0_none (fun h => hx (hB ▸ hA' x h))]
          rfl
      have lBo : Bo.length ≤ 50 := by
        have : (ks Bo).length = Bo.length := by unfold ks; rw [List.length_map]
        rw [← this, kBo, List.length_take]
        omega
      have lEn : En.length ≤ 50 := by
        have : (ks En).length = En.length := by unfold ks; rw [List.length_map]
        rw [← this, kEn, List.length_drop]
        omega
      refine ifs_of (or_of ⟨_, rfl, _, rfl, tt, dx, _, uu, dy, _, rfl, j1, rfl, i1, tt, uu, nz N, nz W, nz M', nz R', rfl, tY.at_, tU.at_, okNI_nz oN, okNI_nz oW, okNI_nz oM, okNI_nz oR, ?_⟩)
      refine ⟨by have := lz N; omega, by have := lz W; omega, by have := lz M'; have := mo.lm; omega, by have := lz R'; have := mo.lr; omega, fun rr S U H34 s34 tS oS oU mS vS mU vU => ?_⟩
      refine ⟨_, rfl, _, rfl, rr, bo, en, nz S, nz U, Bo, En, rfl, tS, s34 _ _ eBo', s34 _ _ eEn, shw (cmp oS.1 nBo ndN oM.1 kBo vBo (fun x h => by rw [← kN]; exact h) mo.km vS) nBo (fun x h => t4x x (by rw [← kBo]; exact h)) lBo, shw (cmp oU.1 nEn ndW oR.1 kEn vEn (fun x h => by rw [← kW]; exact h) mo.kr vU) nEn (fun x h => d3x x (by rw [← kEn]; exact h)) lEn, fun H35 s35 => ⟨true, rfl, iteF ?_⟩⟩
      have s36 := s34.trans s35
      refine ⟨_, rfl, _, rfl, _, rfl, tt, d1, d2, nz N, nz W, N, W, rfl, (tY.same s36).at_, s36 _ _ q1, s36 _ _ q2, sN, sW, fun H37 s37 => ⟨true, rfl, iteF (nx_of ?_)⟩⟩
      have s38 := s36.trans s37
      have tY := tY.same s38
      have q1 := s38 _ _ q1
      clear s38 s37 s36 s35 s34 tS
      have nzN := nz_nodup ndN
      have one : (eqI (nz N) (nz N) && eqI (nz []) (nz [])) = true := by
        rw [eqI_refl nzN, eqI_refl (A := nz []) List.nodup_nil]
        rfl
      have nil1 : (eqI (nz []) (nz []) && eqI (nz []) (nz [])) = true := by
        rw [eqI_refl (A := nz []) List.nodup_nil]
        rfl
      show tSeq (tIfS (tOr (tTest (tOp (rOwnNe K C (sp_teq K C)) (tMake C (sp_tinit K C) [] E0 (tCons (tVar 3) (tCons (tTup tNil) tNil))) (tTab1 K C (tCons (tVar 3) tNil)))) (tTest (tOp (rOwnNe K C (sp_teq K C)) (tMake C (sp_tinit K C) [] E0 (tCons (tVar 3) (tCons tDNewK tNil))) (tMake C (sp_tinit K C) [] E0 (tCons (tVar 3) (tCons (tLst tNil) tNil)))))) _ _) _ _ [some (V.ref a), some (V.ref p), some (V.ref q), some (V.ref d1), some (V.ref d2), some (V.ref c1), some (V.ref c2), some (V.ref tt), some (V.ref m), some (V.ref r), some (V.ref uu), some (V.bl sm), some (V.ref bo), some (V.ref en), none] H37
      refine ifs_of (or_of (test_of ⟨_, rfl, Nat.zero_le _, fun ta hta x dx1 hx hdx ne => ?_⟩))
      have s1 := same_new (o := .tup []) hta
      refine tinit_of hx hdx ne (.inl (s1 _ _ q1)) oN (.inr ⟨rfl, .inl upd_same⟩) (okNil true) fun H38 u1 u2 _ _ s2 tb => ⟨rfl, fun dT kT => ⟨_, rfl, fun x' dx1' hx' hdx' ne' => ?_⟩⟩
      have s3 := s1.trans s2
      refine tinit_of hx' hdx' ne' (.inl (s3 _ _ q1)) oN (.inr ⟨rfl, .inr (.inr kT)⟩) (okNil true) fun H39 u1' u2' _ _ s4 tb' => ⟨rfl, ?_⟩
      have tb2 := tb.same s4
      obtain ⟨ex1, ej1, _⟩ := id tb2
      obtain ⟨ex2, ej2, _⟩ := id tb'
      refine ⟨x, ex1, _, rfl, ej1, .inl ⟨x', ex2, _, rfl, ej2⟩, x, .ref x', nz N, nz [], rfl, tb2.at_, .inl ⟨x', nz N, nz [], rfl, tb'.at_, ?_⟩⟩
      rw [one]
      refine ⟨_, rfl, false, rfl, iteF ?_⟩
      have s5 := s3.trans s4
      refine test_of ⟨_, rfl, fun tc htc x3 dx3 hx3 hdx3 ne3 => ?_⟩
      have s6 := same_new (o := .dK []) htc
      refine tinit_of (A := N) (B := []) hx3 hdx3 ne3 (.inl (s6 _ _ (s5 _ _ q1))) oN (.inl upd_same) (okNil true) fun H40 u3 u4 _ _ s7 tb3 => ⟨rfl, ⟨_, rfl, Nat.zero_le _, fun td htd x4 dx4 hx4 hdx4 ne4 => ?_⟩⟩
      have s8 := s5.trans (s6.trans s7)
      have s9 := same_new (o := .lst []) htd
      refine tinit_of hx4 hdx4 ne4 (.inl (s9 _ _ (s8 _ _ q1))) oN (.inr ⟨rfl, .inr (.inl upd_same)⟩) (okNil true) fun H41 u5 u6 _ _ s10 tb4 => ⟨rfl, ?_⟩
      have tb3' := (tb3.same s9).same s10
      obtain ⟨ex3, ej3, _⟩ := id tb3'
      obtain ⟨ex4, ej4, _⟩ := id tb4
      refine ⟨x3, ex3, _, rfl, ej3, .inl ⟨x4, ex4, _, rfl, ej4⟩, x3, .ref x4, nz N, nz [], rfl, tb3'.at_, .inl ⟨x4, nz N, nz [], rfl, tb4.at_, ?_⟩⟩
      rw [one]
      refine ⟨_, rfl, false, rfl, iteF (nx_of ?_)⟩
      have s11 := s8.trans (s9.trans s10)
      have tY := tY.same s11
      have q1 := s11 _ _ q1
      clear s11 s10 s9 s8 s7 s6 s5 s4 s3 s2 s1
      show tRet (tAndV (tOp (rOwnEq K C (sp_teq K C)) (tTab1 K C (tCons tDNewK tNil)) (tMake C (sp_tinit K C) [] E0 (tCons tDNewK (tCons tDNewK tNil)))) (tAndV (tOp rEq (tMeth C "size" (sp_size C) [] E0 (tTab1 K C (tCons tDNewK tNil)) tNil) (tC (.int 0))) (tAndV (tOp (rOwnNe K C (sp_teq K C)) (tVar 7) (tVar 3)) (tNotV (tOp (rOwnEq K C (sp_teq K C)) (tVar 7) (tC .non)))))) _ [some (V.ref a), some (V.ref p), some (V.ref q), some (V.ref d1), some (V.ref d2), some (V.ref c1), some (V.ref c2), some (V.ref tt), some (V.ref m), some (V.ref r), some (V.ref uu), some (V.bl sm), some (V.ref bo), some (V.ref en), none] H41
      intro dT kT n1 hn1 x5 dx5 hx5 hdx5 ne5
      refine tinit_of (A := []) (B := []) hx5 hdx5 ne5 (.inl upd_same) (okNil false) (.inr ⟨rfl, .inr (.inr kT)⟩) (okNil true) fun H42 u7 u8 _ _ s12 tb5 => ⟨rfl, ?_⟩
      intro n2 hn2 n3 hn3 x6 dx6 hx6 hdx6 ne6
      have s13 := same_new (o := .dK []) hn3
      refine tinit_of (A := []) (B := []) hx6 hdx6 ne6 (.inl (s13 _ _ upd_same)) (okNil false) (.inl upd_same) (okNil true) fun H43 u9 u10 _ _ s14 tb6 => ⟨rfl, ?_⟩
      have sA : Same H41 H43 := (same_new hn1).trans (s12.trans ((same_new hn2).trans (s13.trans s14)))
      have tb5' := tb5.same ((same_new hn2).trans (s13.trans s14))
      obtain ⟨ex5, ej5, _⟩ := id tb5'
      obtain ⟨ex6, ej6, _⟩ := id tb6
      refine ⟨x5, ex5, _, rfl, ej5, .inl ⟨x6, ex6, _, rfl, ej6⟩, x5, .ref x6, nz [], nz [], rfl, tb5'.at_, .inl ⟨x6, nz [], nz [], rfl, tb6.at_, ?_⟩⟩
      rw [nil1]
      refine ⟨_, rfl, _, rfl, iteT ?_⟩
      intro dT2 kT2 n4 hn4 x7 dx7 hx7 hdx7 ne7
      refine tinit_of (A := []) (B := []) hx7 hdx7 ne7 (.inl upd_same) (okNil false) (.inr ⟨rfl, .inr (.inr kT2)⟩) (okNil true) fun H44 u11 u12 _ _ s15 tb7 => ⟨rfl, ?_⟩
      obtain ⟨ex7, ej7, _⟩ := id tb7
      refine ⟨x7, ex7, _, rfl, ej7, rfl, x7, nz [], nz [], rfl, tb7.at_, rfl, true, rfl, iteT ?_⟩
      have sB := sA.trans ((same_new hn4).trans s15)
      have tY := tY.same sB
      obtain ⟨dx, j1, j2, j3⟩ := id tY
      have q1 := sB _ _ q1
      refine ⟨_, rfl, _, rfl, tt, dx, _, rfl, j1, .inr ⟨.type "dict", .base (.dK q1), T.nD⟩, tt, .ref d1, nz N, nz W, rfl, tY.at_, .inr ⟨.type "dict", .base (.dK q1), T'.kD, _, rfl, true, rfl, iteT ?_⟩⟩
      refine ⟨_, rfl, tt, dx, _, rfl, j1, .inr ⟨.type "NoneType", .base .non, T.nN⟩, tt, .non, nz N, nz W, rfl, tY.at_, .inr ⟨.type "NoneType", .base .non, T'.kN, _, rfl, false, rfl, k _⟩⟩
end
end Lw
/-! ## Hk01 -/
set_option Elab.async false
set_option linter.all false
set_option maxRecDepth 100000
set_option maxHeartbeats 0
namespace Lw
open PySem PySem.Spec PyProof.Rows L2 Sl
def dF (x : Str) (st : Stmt) : He.DefD := ⟨(x, none), x, x, defArgs st, defBody st, defScope st, [], []⟩
def dT (m q : Str) (st : Stmt) (dfl : List He.Dv) : He.DefD := ⟨("Table", some m), m, q, defArgs st, defBody st, defScope st, dfl, []⟩
def fn : List He.DefD := [dF "is_name" s_is_name,
  dF "is_integer" s_is_integer,
  dF "is_list" s_is_list,
  dF "pairs_of" s_pairs_of,
  dF "sums" s_sums,
  dF "named_integers" s_named_integers,
  dF "_law_source" s_l_source,
  dF "_law_draw" s_l_draw,
  dF "_law_name" s_l_name,
  dF "_law_names" s_l_names,
  dF "_law_big" s_l_big,
  dF "_law_lists" s_l_lists,
  dF "_law_less" s_l_less,
  dF "_law_is_right" s_l_is_right,
  dF "law" s_law,
  dT "__init__" "Table.__init__" s_Table___init__ [.adr (He.dflAt ("Table", some "__init__") 0)],
  dT "__eq__" "Table.__eq__" s_Table___eq__ [],
  dT "__add__" "Table.__add__" s_Table___add__ [],
  dT "rows" "Table.rows" s_Table_rows [],
  dT "worth" "Table.worth" s_Table_worth [],
  dT "row_kinds" "Table.row_kinds" s_Table_row_kinds [],
  dT "counter_names" "Table.counter_names" s_Table_counter_names [],
  dT "size" "Table.size" s_Table_size []]
def fa : List He.Fa := [.glo "is_name", .glo "is_integer", .glo "is_list", .glo "pairs_of", .glo "sums", .glo "named_integers", .glo "_law_source", .glo "_law_draw", .glo "_law_name", .glo "_law_names", .glo "_law_big", .glo "_law_lists", .glo "_law_less", .glo "_law_is_right", .glo "law", .glo "Table", .free "isinstance", .free "str", .free "int", .free "bool", .free "list", .free "tuple", .free "dict", .free "len", .free "all", .free "any", .free "range", .free "sorted", .free "sum", .str "LETTERS" "abcdefghijklmnopqrstuvwxyz", .int "MOST_LETTERS" 8, .cls "Table", .noat "Table" "_numbers", .noat "Table" "_worths", .mkr "Table", .meth "Table" "__eq__", .meth "Table" "__add__", .meth "Table" "rows", .meth "Table" "worth", .meth "Table" "row_kinds", .meth "Table" "counter_names", .meth "Table" "size"]
def tC (K : PySem.W.Frag) : Addr := He.ga K "Table"
def ex1 (K : PySem.W.Frag) : Bool := He.eqO (PySem.W.findIn K (.ref (tC K)) "__class__") (some (some (.builtin "object.__class__"))) && (He.eqO (PySem.W.specialIn K (.builtin "object.__class__") "__get__") (some (some (.builtin "getset_descriptor.__get__"))) && (decide (PySem.W.takesIn K (.builtin "object.__class__") = some true) && decide (PySem.W.mroIn K (tC K) (.type "object") = some true)))
def ex2 (K : PySem.W.Frag) : Bool := decide (PySem.W.kitOne K (.type "dict") (.ref (tC K)) = some false) && decide (PySem.W.kitOne K (.type "NoneType") (.ref (tC K)) = some false)
def ex3 (K : PySem.W.Frag) : Bool := He.eqO (PySem.W.findIn K (.ref (tC K)) "__ne__") (some (some (.builtin "object.__ne__"))) && (decide (PySem.W.subIn K (.ref (tC K)) (.type "object") = some true) && (PySem.W.selfFirst K (tC K) && (PySem.W.notFirst K (tC K) (.type "dict") && PySem.W.notFirst K (tC K) (.type "NoneType"))))
def tD (K : PySem.W.Frag) : Addr := He.dflAt ("Table", some "__init__") 0 K
def ex4 (K : PySem.W.Frag) : Bool := match K.lookup (tD K) with
  | some ⟨.type c, _, .seq its _, _⟩ => decide (c = "tuple") && (decide (its.size ≤ sizeLine) && its.isEmpty)
  | _ => false
def ex : List (PySem.W.Frag → Bool) := [ex1, ex2, ex3, ex4]
abbrev R : PySem.W.OpenRow := PySem.W.OpenLaw.row PySem.Challenge.rw_statementlots_k01_tables_made
abbrev hk : PySem.W.Hook := hookS 5 fa fn ex
def ob (s : PySem.W.SharedT) : AlS := obsSG 5 fa fn ex (HandSHeadRun.getT s)
theorem ob_eq (s : PySem.W.SharedT) : ob s = hk.obs s.abs := obsSG_eq (HandSHeadRun.getT_eq s)
abbrev loose : List Str := ["MOST_BITS", "shown", "LotError", "BadTable", "LETTERS", "MOST_LETTERS", "is_name", "is_integer", "is_list", "pairs_of", "sums", "named_integers", "Table", "_law_source", "_law_draw", "_law_name", "_law_names", "_law_big", "_law_lists", "_law_less", "_law_is_right"]
end Lw
/-! ## Hr01 -/
set_option Elab.async false
set_option linter.all false
set_option maxRecDepth 100000
set_option maxHeartbeats 0
namespace Lw
open PySem PySem.Spec PyProof.Rows L2 Sl
theorem run (w : World) : HandSHeadRun.RunEq R (PySem.W.view R.prog [25]) hk ob 5000 loose w := by
  intro os
  kernel_rfl
end Lw
/-! ## K01j -/
set_option Elab.async false
set_option linter.all false
set_option maxRecDepth 100000
set_option maxHeartbeats 4000000
namespace Lw
open PySem PySem.Spec PyProof.Rows L2 Sl
section
variable {P : Program} {w : World} {K : PySem.W.Frag} {base h : Heap} {mg : Str → Option Value}
theorem ktup_of (e : ex4 K = true) : KTup K (tD K) := by
  unfold ex4 at e
  intro H
  cases q : K.lookup (tD K) with
  | none => rw [q] at e; cases e
  | some o =>
    obtain ⟨oc, od, dt, osl⟩ := o
    rw [q] at e
    cases oc with
    | type c =>
      cases dt with
      | seq its n =>
        obtain ⟨h1, h2⟩ := He.ba (show (decide (c = "tuple") && (decide (its.size ≤ sizeLine) && its.isEmpty)) = true from e)
        obtain ⟨h3, h4⟩ := He.ba h2
        have e1 : its = #[] := Array.isEmpty_iff.mp h4
        subst e1
        exact ⟨.inr ⟨_, _, _, q, congrArg Value.type (of_decide_eq_true h1), rfl, of_decide_eq_true h3, .nil⟩, .kTuple q (congrArg Value.type (of_decide_eq_true h1))⟩
      | _ => cases e
    | _ => cases dt <;> cases e
theorem facts_top (X : K.In h) (G : h.Ns mainGlobals mg) (c : SaysS fa fn ex K) : Top01 P w K mg base (tC K) := by
  have d := c.d
  have g := fun (i : Nat) (x : Str) (e : fa[i]? = some (.glo x)) => He.glo_ok X G (d.fact i e)
  have fr := fun (i : Nat) (x : Str) (e : fa[i]? = some (.free x)) => He.free_ok X G (d.fact i e)
  have m_isinstance := fr 16 "isinstance" rfl
  have m_str := fr 17 "str" rfl
  have m_int := fr 18 "int" rfl
  have m_bool := fr 19 "bool" rfl
  have m_list := fr 20 "list" rfl
  have m_tuple := fr 21 "tuple" rfl
  have m_dict := fr 22 "dict" rfl
  have m_len := fr 23 "len" rfl
  have m_all := fr 24 "all" rfl
  have m_any := fr 25 "any" rfl
  have m_range := fr 26 "range" rfl
  have m_sorted := fr 27 "sorted" rfl
  have m_sum := fr 28 "sum" rfl
  have g_is_name := g 0 "is_name" rfl
  have g_is_integer := g 1 "is_integer" rfl
  have g_is_list := g 2 "is_list" rfl
  have g_pairs_of := g 3 "pairs_of" rfl
  have g_sums := g 4 "sums" rfl
  have g_named_integers := g 5 "named_integers" rfl
  have g__law_source := g 6 "_law_source" rfl
  have g__law_draw := g 7 "_law_draw" rfl
  have g__law_name := g 8 "_law_name" rfl
  have g__law_names := g 9 "_law_names" rfl
  have g__law_big := g 10 "_law_big" rfl
  have g__law_lists := g 11 "_law_lists" rfl
  have g__law_less := g 12 "_law_less" rfl
  have g__law_is_right := g 13 "_law_is_right" rfl
  have g_law := g 14 "law" rfl
  have g_Table := g 15 "Table" rfl
  obtain ⟨tL, mL⟩ := He.str_ok X G (d.fact 29 (f := .str "LETTERS" "abcdefghijklmnopqrstuvwxyz") rfl)
  obtain ⟨tM, mM⟩ := He.int_ok X G (d.fact 30 (f := .int "MOST_LETTERS" 8) rfl)
  have cl := He.cls_ok (d.fact 31 (f := .cls "Table") rfl)
  have n1 := He.noat_ok (d.fact 32 (f := .noat "Table" "_numbers") rfl)
  have n2 := He.noat_ok (d.fact 33 (f := .noat "Table" "_worths") rfl)
  have mk := He.mkr_ok (d.fact 34 (f := .mkr "Table") rfl)
  have me_eq := He.meth_ok (d.fact 35 (f := .meth "Table" "__eq__") rfl)
  have me_add := He.meth_ok (d.fact 36 (f := .meth "Table" "__add__") rfl)
  have me_rows := He.meth_ok (d.fact 37 (f := .meth "Table" "rows") rfl)
  have me_worth := He.meth_ok (d.fact 38 (f := .meth "Table" "worth") rfl)
  have me_row_kinds := He.meth_ok (d.fact 39 (f := .meth "Table" "row_kinds") rfl)
  have me_counter_names := He.meth_ok (d.fact 40 (f := .meth "Table" "counter_names") rfl)
  have me_size := He.meth_ok (d.fact 41 (f := .meth "Table" "size") rfl)
  obtain ⟨fd_is_name, F_is_name⟩ := d.def_ 0 (d := dF "is_name" s_is_name) rfl
  obtain ⟨fd_is_integer, F_is_integer⟩ := d.def_ 1 (d := dF "is_integer" s_is_integer) rfl
  obtain ⟨fd_is_list, F_is_list⟩ := d.def_ 2 (d := dF "is_list" s_is_list) rfl
  obtain ⟨fd_pairs_of, F_pairs_of⟩ := d.def_ 3 (d := dF "pairs_of" s_pairs_of) rfl
  obtain ⟨fd_sums, F_sums⟩ := d.def_ 4 (d := dF "sums" s_sums) rfl
  obtain ⟨fd_named_integers, F_named_integers⟩ := d.def_ 5 (d := dF "named_integers" s_named_integers) rfl
  obtain ⟨fd__law_source, F__law_source⟩ := d.def_ 6 (d := dF "_law_source" s_l_source) rfl
  obtain ⟨fd__law_draw, F__law_draw⟩ := d.def_ 7 (d := dF "_law_draw" s_l_draw) rfl
  obtain ⟨fd__law_name, F__law_name⟩ := d.def_ 8 (d := dF "_law_name" s_l_name) rfl
  obtain ⟨fd__law_names, F__law_names⟩ := d.def_ 9 (d := dF "_law_names" s_l_names) rfl
  obtain ⟨fd__law_big, F__law_big⟩ := d.def_ 10 (d := dF "_law_big" s_l_big) rfl
  obtain ⟨fd__law_lists, F__law_lists⟩ := d.def_ 11 (d := dF "_law_lists" s_l_lists) rfl
  obtain ⟨fd__law_less, F__law_less⟩ := d.def_ 12 (d := dF "_law_less" s_l_less) rfl
  obtain ⟨fd__law_is_right, F__law_is_right⟩ := d.def_ 13 (d := dF "_law_is_right" s_l_is_right) rfl
  obtain ⟨fd_law, F_law⟩ := d.def_ 14 (d := dF "law" s_law) rfl
  obtain ⟨fm_init, M_init⟩ := d.def_ 15 (d := dT "__init__" "Table.__init__" s_Table___init__ [.adr (He.dflAt ("Table", some "__init__") 0)]) rfl
  obtain ⟨fm_eq, M_eq⟩ := d.def_ 16 (d := dT "__eq__" "Table.__eq__" s_Table___eq__ []) rfl
  obtain ⟨fm_add, M_add⟩ := d.def_ 17 (d := dT "__add__" "Table.__add__" s_Table___add__ []) rfl
  obtain ⟨fm_rows, M_rows⟩ := d.def_ 18 (d := dT "rows" "Table.rows" s_Table_rows []) rfl
  obtain ⟨fm_worth, M_worth⟩ := d.def_ 19 (d := dT "worth" "Table.worth" s_Table_worth []) rfl
  obtain ⟨fm_row_kinds, M_row_kinds⟩ := d.def_ 20 (d := dT "row_kinds" "Table.row_kinds" s_Table_row_kinds []) rfl
  obtain ⟨fm_counter_names, M_counter_names⟩ := d.def_ 21 (d := dT "counter_names" "Table.counter_names" s_Table_counter_names []) rfl
  obtain ⟨fm_size, M_size⟩ := d.def_ 22 (d := dT "size" "Table.size" s_Table_size []) rfl
  obtain ⟨a1, a⟩ := He.ba (show (_ && _) = true from c.x 0 (e := ex1) rfl)
  obtain ⟨a2, a⟩ := He.ba a
  obtain ⟨a3, a4⟩ := He.ba a
  obtain ⟨k1, k2⟩ := He.ba (show (_ && _) = true from c.x 1 (e := ex2) rfl)
  obtain ⟨o1, o⟩ := He.ba (show (_ && _) = true from c.x 2 (e := ex3) rfl)
  obtain ⟨o2, o⟩ := He.ba o
  obtain ⟨o3, o⟩ := He.ba o
  obtain ⟨o4, o5⟩ := He.ba o
  have kT := ktup_of (c.x 3 (e := ex4) rfl)
  have T : TabC K (tC K) := ⟨cl, n1, n2, He.eqO_ok a1, He.eqO_ok a2, of_decide_eq_true a3, of_decide_eq_true a4, of_decide_eq_true k1, of_decide_eq_true k2⟩
  have c_isname : Cal P w K mg base 1 "is_name" [] (sp_isname K) := ⟨_, fd_is_name, ["thing"], [], g_is_name, F_is_name.kp, ok_is_name F_is_name m_isinstance m_str m_len m_all mL mM, F_is_name.bindsN (fun _ _ _ _ _ _ us hl => match us, hl with | [_], _ => rfl), .nil⟩
  have c_isint : Cal P w K mg base 1 "is_integer" [] (sp_isint K) := ⟨_, fd_is_integer, ["thing"], [], g_is_integer, F_is_integer.kp, ok_is_integer F_is_integer m_isinstance m_int m_bool, F_is_integer.bindsN (fun _ _ _ _ _ _ us hl => match us, hl with | [_], _ => rfl), .nil⟩
  have c_islist : Cal P w K mg base 1 "is_list" [] (sp_islist K) := ⟨_, fd_is_list, ["thing"], [], g_is_list, F_is_list.kp, ok_is_list F_is_list m_isinstance m_list m_tuple, F_is_list.bindsN (fun _ _ _ _ _ _ us hl => match us, hl with | [_], _ => rfl), .nil⟩
  have c_pairs : Cal P w K mg base 2 "pairs_of" [] (sp_pairs K) := ⟨_, fd_pairs_of, ["thing"], [], g_pairs_of, F_pairs_of.kp, ok_pairs F_pairs_of c_islist m_isinstance m_dict m_list m_len, F_pairs_of.bindsN (fun _ _ _ _ _ _ us hl => match us, hl with | [_], _ => rfl), .nil⟩
  have c_sums : Cal P w K mg base 1 "sums" [] sp_sums := ⟨_, fd_sums, ["one", "other"], [], g_sums, F_sums.kp, ok_sums F_sums, F_sums.bindsN (fun _ _ _ _ _ _ us hl => match us, hl with | [_, _], _ => rfl), .nil⟩
  have c_named : Cal P w K mg base 3 "named_integers" [] (sp_named K) := ⟨_, fd_named_integers, ["told", "may_be_negative"], [], g_named_integers, F_named_integers.kp, ok_named F_named_integers c_pairs c_isname c_isint, F_named_integers.bindsN (fun _ _ _ _ _ _ us hl => match us, hl with | [_, _], _ => rfl), .nil⟩
  have c_src : Cal P w K mg base 1 "_law_source" [] (sp_source K) := ⟨_, fd__law_source, ["_law_script"], [], g__law_source, F__law_source.kp, ok_source F__law_source m_int, F__law_source.bindsN (fun _ _ _ _ _ _ us hl => match us, hl with | [_], _ => rfl), .nil⟩
  have c_drw : Cal P w K mg base 1 "_law_draw" [] sp_draw := ⟨_, fd__law_draw, ["_law_source_here", "_law_many"], [], g__law_draw, F__law_draw.kp, ok_draw F__law_draw m_int, F__law_draw.bindsN (fun _ _ _ _ _ _ us hl => match us, hl with | [_, _], _ => rfl), .nil⟩
  have c_name : Cal P w K mg base 2 "_law_name" [] (sp_name K) := ⟨_, fd__law_name, ["_law_source_here", "_law_taken"], [], g__law_name, F__law_name.kp, ok_name F__law_name c_drw m_range, F__law_name.bindsN (fun _ _ _ _ _ _ us hl => match us, hl with | [_, _], _ => rfl), .nil⟩
  have c_names : Cal P w K mg base 3 "_law_names" [] (sp_names K) := ⟨_, fd__law_names, ["_law_source_here", "_law_many"], [], g__law_names, F__law_names.kp, ok_names F__law_names c_name m_range, F__law_names.bindsN (fun _ _ _ _ _ _ us hl => match us, hl with | [_, _], _ => rfl), .nil⟩
  have c_big : Cal P w K mg base 2 "_law_big" [] sp_big := ⟨_, fd__law_big, ["_law_source_here"], [], g__law_big, F__law_big.kp, ok_big F__law_big c_drw, F__law_big.bindsN (fun _ _ _ _ _ _ us hl => match us, hl with | [_], _ => rfl), .nil⟩
  have c_lists : Cal P w K mg base 3 "_law_lists" [] (sp_lists K) := ⟨_, fd__law_lists, ["_law_source_here", "_law_names_here"], [], g__law_lists, F__law_lists.kp, ok_lists F__law_lists c_drw c_big m_dict, F__law_lists.bindsN (fun _ _ _ _ _ _ us hl => match us, hl with | [_, _], _ => rfl), .nil⟩
  have c_less : Cal P w K mg base 1 "_law_less" [] sp_less := ⟨_, fd__law_less, ["_law_numbers"], [], g__law_less, F__law_less.kp, ok_less F__law_less m_dict m_sorted, F__law_less.bindsN (fun _ _ _ _ _ _ us hl => match us, hl with | [_], _ => rfl), .nil⟩
  have OI : FnOk P w K mg base CX0 4 _ fm_init ["self", "rows", "counters"] (sp_tinit K (tC K)) := ok_tinit (dvs := [V.ref (tD K)]) M_init T c_named
  have bI3 : Binds K fm_init ["self", "rows", "counters"] [] := by
    obtain ⟨ds, hv, hb⟩ := M_init.binds1 (ps := ["self", "rows", "counters"]) 3 1 (List.cons_ne_nil _ _) rfl (fun _ _ _ _ _ _ _ us its h1 h2 => match us, h1, its, h2 with | [_, _, _], _, [_], _ => ⟨_, rfl, rfl⟩)
    cases hv
    exact hb
  have bI2 : Binds K fm_init ["self", "rows", "counters"] [.ref (tD K)] := by
    obtain ⟨ds, hv, hb⟩ := M_init.binds1 (ps := ["self", "rows", "counters"]) 2 0 (List.cons_ne_nil _ _) rfl (fun _ _ _ _ _ _ _ us its h1 h2 => match us, h1, its, h2 with | [_, _], _, [_], _ => ⟨_, rfl, rfl⟩)
    obtain ⟨u, rfl, ru⟩ := vals1 hv
    cases (show u = Value.ref (tD K) from ru)
    exact hb
  have tabF : TabF P w K mg base (tC K) := ⟨g_Table, T, _, fm_init, mk, OI, bI3, tD K, kT, bI2⟩
  have Mm : Meths P w K mg base (tC K) := ⟨⟨⟨_, fm_rows, ["self", "kind"], me_rows, ok_rows M_rows T c_isname, M_rows.bindsN (fun _ _ _ _ _ _ us hl => match us, hl with | [_, _], _ => rfl)⟩⟩, ⟨⟨_, fm_worth, ["self", "counter"], me_worth, ok_worth M_worth T c_isname, M_worth.bindsN (fun _ _ _ _ _ _ us hl => match us, hl with | [_, _], _ => rfl)⟩⟩, ⟨⟨_, fm_row_kinds, ["self"], me_row_kinds, ok_row_kinds M_row_kinds T m_sorted, M_row_kinds.bindsN (fun _ _ _ _ _ _ us hl => match us, hl with | [_], _ => rfl)⟩⟩, ⟨⟨_, fm_counter_names, ["self"], me_counter_names, ok_counter_names M_counter_names T m_sorted, M_counter_names.bindsN (fun _ _ _ _ _ _ us hl => match us, hl with | [_], _ => rfl)⟩⟩, ⟨⟨_, fm_size, ["self"], me_size, ok_size M_size T m_sum, M_size.bindsN (fun _ _ _ _ _ _ us hl => match us, hl with | [_], _ => rfl)⟩⟩⟩
  have c_right : Cal P w K mg base 3 "_law_is_right" [] (sp_isright (tC K)) := ⟨_, fd__law_is_right, ["_law_table", "_law_numbers", "_law_worths"], [], g__law_is_right, F__law_is_right.kp, ok_isright F__law_is_right T (.inr trivial) Mm c_less m_list m_any m_sum, F__law_is_right.bindsN (fun _ _ _ _ _ _ us hl => match us, hl with | [_, _, _], _ => rfl), .nil⟩
  exact ⟨c_src, c_drw, c_names, c_lists, c_less, c_right, tabF, Mm, ⟨⟨_, fm_eq, ["self", "other"], me_eq.at_, me_eq.fn, ok_teq M_eq T m_isinstance g_Table, M_eq.bindsN (fun _ _ _ _ _ _ us hl => match us, hl with | [_, _], _ => rfl)⟩⟩, ⟨⟨_, fm_add, ["self", "other"], me_add.at_, me_add.fn, ok_tadd M_add tabF c_sums m_isinstance, M_add.bindsN (fun _ _ _ _ _ _ us hl => match us, hl with | [_, _], _ => rfl)⟩⟩, He.eqO_ok o1, of_decide_eq_true o2, o3, o4, o5, m_dict, m_sorted⟩
end
end Lw
/-! ## K01z -/
set_option Elab.async false
set_option linter.all false
set_option maxRecDepth 100000
set_option maxHeartbeats 0
open PySem PySem.W PySem.Calls PyProof.Rows
theorem PySem.Challenge.cw_statementlots_k01_tables_made_holds : PySem.Challenge.rw_statementlots_k01_tables_made.Holds := by
  w_on; o_law
  refine HandSHeadRun.head_any (r := OpenLaw.row PySem.Challenge.rw_statementlots_k01_tables_made) (q := view (OpenLaw.row PySem.Challenge.rw_statementlots_k01_tables_made).prog [25]) (H := Lw.hk) (ob := Lw.ob) (M := 5000) (loose := Lw.loose) (d := HandSHeadRun.topDef (OpenLaw.row PySem.Challenge.rw_statementlots_k01_tables_made).prog 25) (kwd := []) Lw.ob_eq
    (by kernel_rfl) (fun s => by kernel_rfl) Lw.run (by kernel_rfl) (by kernel_rfl) (by kernel_rfl) (by rfl) (by first | assumption | decide +kernel) (by decide +kernel) ⟨rfl, rfl, rfl, rfl, rfl, by decide +kernel⟩ ?hw ?hc
  case hw => w_witness2
  case hc =>
    refine L2.walk_ofE (l := PySem.Challenge.rw_statementlots_k01_tables_made) (n := 63) (k := 7) (x := "_law_script") (CX := L2.CX0) rfl (by decide) (by kernel_rfl) ⟨rfl, by decide, by decide⟩ ?F (fun _ _ _ _ z => z)
    intro w mg fa h Y G hmg0
    obtain ⟨K, KX, c⟩ := Y
    have hmg : mg ("law" : PySem.Str) = some (.ref fa) := by
      have e : (HandSHeadRun.topDef (OpenLaw.row PySem.Challenge.rw_statementlots_k01_tables_made).prog 25).name = ("law" : PySem.Str) := by kernel_rfl
      rw [← e]
      exact hmg0
    obtain ⟨fd, F⟩ := c.d.def_ 14 (d := Lw.dF "law" Lw.s_law) rfl
    have e := hmg.symm.trans (He.glo_ok KX G (c.d.fact 14 (f := .glo "law") rfl))
    cases e
    have b := L2.FunD.bindsA (ps := ["_law_script"]) F fun _ _ _ _ _ _ us hl => match us, hl with | [_], _ => rfl
    exact ⟨K, fd, Lw.sp_law K, KX, fun s v => b s [v] rfl, fun H a ns hl _ hS => ⟨a, ns, rfl, hS, hl, fun _ => rfl⟩, fun base _ _ => Lw.ok_law F (Lw.facts_top KX G c)⟩
#print axioms PySem.Challenge.cw_statementlots_k01_tables_made_holds
