import PyProof.Rows.All
import Wide.All
import OpenK.AllK
import Wide.FinOn
import HandS.ForMost
import HandS.ForExc
import HandS.Wide
import HandS.Defaults
import HandS.IsInst
import HandS.Conv
import PySem.Challenge.RW_statementlots_k03_statements_made
import HandS.Text
import HandS.List
import HandS.Words
import HandS.Walk
import HandS.Dict
import PyProof.DictUpdate
import PyProof.MeetsSeq2
import HandS.Iter
import HandS.Sort
import PyProof.SumWalkG
import HandS.DictComp
import HandS.More
import KE.KEqDict
import PyProof.Rows.SortStr
import PyProof.Rows.StrMeet
import HandS.SortRule
import HandS.ListItems
import HandS.OwnEq
import PyProof.InstNe
import OpenK.KMeth
import HandS.ExcInit
import HandS.ClsMeth
import HandS.ExcIs
import HandS.Head0
import HandS.Head1
import HandS.Head2
import HandS.HeadEnd
import HandS.HeadHook1
import HandS.HeadHook2
import HandS.Property
import HandS.DeepEq
import HandS.WideBits
import KE.KOpsOwn
import HandS.SetTxt0
import HandS.TupSets
import HandS.SetFor
import HandS.Comp
import HandS.Star
import HandS.StrMore
import HandS.Flow
import PyProof.NeKinds
import PyProof.Rows.StrReprJoin
import PyProof.FactsAll.bool_3
import HandS.ExcField
import HandS.ExcOwn
import HandS.NoneIn
import HandS.Style
import HandS.Finally
/-! ## SlBase -/
set_option Elab.async false
set_option linter.all false
set_option maxRecDepth 100000
set_option maxHeartbeats 4000000
namespace Sl
open PySem PySem.Spec PyProof.Rows L2

/-- a def of the top that lets no exception out: what it promises, at most k levels deep -/
structure Cal (P : Program) (w : World) (K : PySem.W.Frag) (mg : Str → Option Value) (base : Heap) (k : Nat) (x : Str) (dvs : List V) (sp : Sp) : Prop where
  ex : ∃ (f : Addr) (fd : FuncData) (ps : List Str) (ds : List Value), mg x = some (.ref f) ∧ PySem.W.keepIn K (.ref f) = true ∧ FnOk P w K mg base CX0 k f fd ps sp ∧ Binds K fd ps ds ∧ Vals dvs ds
theorem pe_cal {X : Cx} {x : Str} {e : Expr} {es : List Expr} {p pos : Pos} {k : Nat} {dvs : List V} {sp : Sp} {t : TA} (h : Cal X.prog X.w X.K X.mg X.base k x dvs sp) (hr : Room k X.A) (ha : PA X (e :: es) t) (hg : Gl X x := by rfl)
    (hdb : (x == ("__debug__" : Str)) = false := by decide) (he : starEach (e :: es) X.env = (false, eval e X.env) :: starEach es X.env := by rfl) (hpl : (backTo pos (starEach es X.env)).any (·.1) = false := by rfl) :
    PE X (.Call (.Name x p) (e :: es) [] pos) (tCall sp dvs E0 t) := by
  obtain ⟨f, fd, ps, ds, hm, hk, F, hb, hd⟩ := h.ex
  exact pe_call F hr hg hm hk hb hd pass0 ha hdb he hpl

theorem atI_int {α : Type} {xs : List α} {j : Int} {v : α} (h0 : 0 ≤ j) (h : xs[j.toNat]? = some v) : atI xs j = some v := by
  have e := atI_nat h
  rwa [Int.toNat_of_nonneg h0] at e
/-! ### the source of draws -/
def SrcAt (H : Hp) (p : Addr) (n : Nat) : Prop := ∃ g s c : Int, H p = some (.lst [.int g, .int s, .int c]) ∧ 0 ≤ s ∧ s < 2147483647 ∧ 0 ≤ c ∧ c ≤ n
/-- all but p stands -/
def Keep (p : Addr) (H H' : Hp) : Prop := ∀ b o, b ≠ p → H b = some o → H' b = some o
theorem Keep.refl (p : Addr) (H : Hp) : Keep p H H := fun _ _ _ h => h
theorem Keep.trans {p : Addr} {H H1 H2 : Hp} (a : Keep p H H1) (b : Keep p H1 H2) : Keep p H H2 := fun c o n h => b c o n (a c o n h)
theorem Keep.upd {p : Addr} {H : Hp} {o : HO} : Keep p H (upd H p o) := fun b u n h => by rw [upd_ne n]; exact h
theorem Keep.new {p q : Addr} {H : Hp} {o : HO} (hq : H q = none) : Keep p H (L2.upd H q o) := fun b u n h => by rw [upd_ne (ne_of_none h hq)]; exact h
theorem Keep.seq {K : PySem.W.Frag} {p a : Addr} {H H' : Hp} {xs : List V} (k : Keep p H H') (n : a ≠ p) (h : SqL K H a xs) : SqL K H' a xs := by
  rcases h with (h | ⟨o, h⟩) | h
  · exact .inl (.inl (k _ _ n h))
  · exact .inl (.inr ⟨o, k _ _ n h⟩)
  · exact .inr h
theorem SrcAt.mono {H : Hp} {p : Addr} {n m : Nat} (h : SrcAt H p n) (l : n ≤ m) : SrcAt H p m := by
  obtain ⟨g, s, c, e, a1, a2, a3, a4⟩ := h
  exact ⟨g, s, c, e, a1, a2, a3, by omega⟩
theorem SrcAt.there {H : Hp} {p : Addr} {n : Nat} (h : SrcAt H p n) : ∃ o, H p = some o := let ⟨_, _, _, e, _⟩ := h; ⟨_, e⟩
theorem SrcAt.new {H : Hp} {p q : Addr} {n : Nat} {o : HO} (h : SrcAt H p n) (hq : H q = none) : SrcAt (L2.upd H q o) p n := by
  obtain ⟨g, s, c, e, a⟩ := h
  exact ⟨g, s, c, by rw [upd_ne (ne_of_none e hq)]; exact e, a⟩
theorem Keep.free {p q : Addr} {H H' : Hp} (k : Keep p H H') (hp : ∃ o, H' p = some o) (hq : H' q = none) : H q = none := by
  cases e : H q with
  | none => rfl
  | some u =>
    by_cases z : q = p
    · subst z
      obtain ⟨o, ho⟩ := hp
      rw [hq] at ho
      cases ho
    · rw [k q u z e] at hq
      cases hq

def sp_draw : Sp := fun vs H Q _ => ∃ (p : Addr) (m : Int) (n : Nat), vs = [.ref p, .int m] ∧ SrcAt H p n ∧ n ≤ 100000 ∧ 0 < m ∧ m < 2 ^ 200 ∧
  ∀ (k : Int) (H' : Hp), 0 ≤ k → k < m → SrcAt H' p (n + 1) → Keep p H H' → Q (.int k) H'
def sp_source (K : PySem.W.Frag) : Sp := fun vs H Q _ => ∃ (a : Addr) (ns : List Int), vs = [.ref a] ∧ SqL K H a (ns.map V.int) ∧ ns.length ≤ 63 ∧
  ∀ (p : Addr) (H' : Hp), H p = none → SrcAt H' p 0 → (∀ b o, H b = some o → H' b = some o) → Q (.ref p) H'
end Sl
/-! ## HdText -/
set_option Elab.async false
set_option linter.all false
set_option maxRecDepth 100000
set_option maxHeartbeats 4000000
namespace Lw
open PySem PySem.Spec PyProof.Rows L2 Sl
def top (i : Nat) : Stmt := PySem.Challenge.pw_statementlots_k03_statements_made.main.body.getD i (.Pass ⟨0, 0, 0, 0⟩)
abbrev s__wall : Stmt := top 0
/-- slots: 0 k -/
theorem sc__wall : FnScope ["k"] ["k"] (defScope s__wall) := ⟨rfl, rfl, rfl, by decide +kernel, rfl, by decide +kernel, by decide +kernel⟩
abbrev s_shown : Stmt := top 3
/-- slots: 0 field -/
theorem sc_shown : FnScope ["field"] ["field"] (defScope s_shown) := ⟨rfl, rfl, rfl, by decide +kernel, rfl, by decide +kernel, by decide +kernel⟩
abbrev s_LotError___init__ : Stmt := inClass (top 4) 0
/-- slots: 0 self 1 field -/
theorem sc_LotError___init__ : FnScope ["self", "field"] ["self", "field"] (defScope s_LotError___init__) := ⟨rfl, rfl, rfl, by decide +kernel, rfl, by decide +kernel, by decide +kernel⟩
abbrev s_BadStatement___init__ : Stmt := inClass (top 5) 0
/-- slots: 0 self 1 kind -/
theorem sc_BadStatement___init__ : FnScope ["self", "kind"] ["self", "kind"] (defScope s_BadStatement___init__) := ⟨rfl, rfl, rfl, by decide +kernel, rfl, by decide +kernel, by decide +kernel⟩
abbrev s_Overlap___init__ : Stmt := inClass (top 6) 0
/-- slots: 0 self 1 kind -/
theorem sc_Overlap___init__ : FnScope ["self", "kind"] ["self", "kind"] (defScope s_Overlap___init__) := ⟨rfl, rfl, rfl, by decide +kernel, rfl, by decide +kernel, by decide +kernel⟩
abbrev s_is_name : Stmt := top 10
/-- slots: 0 thing 1 letter -/
theorem sc_is_name : FnScope ["thing", "letter"] ["thing"] (defScope s_is_name) := ⟨rfl, rfl, rfl, by decide +kernel, rfl, by decide +kernel, by decide +kernel⟩
abbrev s_is_integer : Stmt := top 11
/-- slots: 0 thing -/
theorem sc_is_integer : FnScope ["thing"] ["thing"] (defScope s_is_integer) := ⟨rfl, rfl, rfl, by decide +kernel, rfl, by decide +kernel, by decide +kernel⟩
abbrev s_is_list : Stmt := top 12
/-- slots: 0 thing -/
theorem sc_is_list : FnScope ["thing"] ["thing"] (defScope s_is_list) := ⟨rfl, rfl, rfl, by decide +kernel, rfl, by decide +kernel, by decide +kernel⟩
abbrev s_pairs_of : Stmt := top 13
/-- slots: 0 thing -/
theorem sc_pairs_of : FnScope ["thing"] ["thing"] (defScope s_pairs_of) := ⟨rfl, rfl, rfl, by decide +kernel, rfl, by decide +kernel, by decide +kernel⟩
abbrev s_sums : Stmt := top 14
/-- slots: 0 one 1 other 2 name -/
theorem sc_sums : FnScope ["one", "other", "name"] ["one", "other"] (defScope s_sums) := ⟨rfl, rfl, rfl, by decide +kernel, rfl, by decide +kernel, by decide +kernel⟩
abbrev s_is_turn : Stmt := top 19
/-- slots: 0 thing 1 kind -/
theorem sc_is_turn : FnScope ["thing", "kind"] ["thing"] (defScope s_is_turn) := ⟨rfl, rfl, rfl, by decide +kernel, rfl, by decide +kernel, by decide +kernel⟩
abbrev s_is_brought : Stmt := top 20
/-- slots: 0 thing -/
theorem sc_is_brought : FnScope ["thing"] ["thing"] (defScope s_is_brought) := ⟨rfl, rfl, rfl, by decide +kernel, rfl, by decide +kernel, by decide +kernel⟩
abbrev s_checked_turns : Stmt := top 21
/-- slots: 0 told 1 pairs 2 kind 3 kinds -/
theorem sc_checked_turns : FnScope ["told", "pairs", "kind", "kinds"] ["told"] (defScope s_checked_turns) := ⟨rfl, rfl, rfl, by decide +kernel, rfl, by decide +kernel, by decide +kernel⟩
abbrev s_checked_brings : Stmt := top 22
/-- slots: 0 told 1 pairs 2 kind 3 number -/
theorem sc_checked_brings : FnScope ["told", "pairs", "kind", "number"] ["told"] (defScope s_checked_brings) := ⟨rfl, rfl, rfl, by decide +kernel, rfl, by decide +kernel, by decide +kernel⟩
abbrev s_Statement___init__ : Stmt := inClass (top 23) 0
/-- slots: 0 self 1 turns 2 brings -/
theorem sc_Statement___init__ : FnScope ["self", "turns", "brings"] ["self", "turns", "brings"] (defScope s_Statement___init__) := ⟨rfl, rfl, rfl, by decide +kernel, rfl, by decide +kernel, by decide +kernel⟩
abbrev s_Statement___eq__ : Stmt := inClass (top 23) 1
/-- slots: 0 self 1 other -/
theorem sc_Statement___eq__ : FnScope ["self", "other"] ["self", "other"] (defScope s_Statement___eq__) := ⟨rfl, rfl, rfl, by decide +kernel, rfl, by decide +kernel, by decide +kernel⟩
abbrev s_Statement___or__ : Stmt := inClass (top 23) 2
/-- slots: 0 self 1 other 2 brings 3 kind -/
theorem sc_Statement___or__ : FnScope ["self", "other", "brings", "kind"] ["self", "other"] (defScope s_Statement___or__) := ⟨rfl, rfl, rfl, by decide +kernel, rfl, by decide +kernel, by decide +kernel⟩
abbrev s_Statement_turns : Stmt := inClass (top 23) 3
/-- slots: 0 self -/
theorem sc_Statement_turns : FnScope ["self"] ["self"] (defScope s_Statement_turns) := ⟨rfl, rfl, rfl, by decide +kernel, rfl, by decide +kernel, by decide +kernel⟩
abbrev s_Statement_brings : Stmt := inClass (top 23) 4
/-- slots: 0 self -/
theorem sc_Statement_brings : FnScope ["self"] ["self"] (defScope s_Statement_brings) := ⟨rfl, rfl, rfl, by decide +kernel, rfl, by decide +kernel, by decide +kernel⟩
abbrev s_Statement_reads : Stmt := inClass (top 23) 5
/-- slots: 0 self -/
theorem sc_Statement_reads : FnScope ["self"] ["self"] (defScope s_Statement_reads) := ⟨rfl, rfl, rfl, by decide +kernel, rfl, by decide +kernel, by decide +kernel⟩
abbrev s_Statement_writes : Stmt := inClass (top 23) 6
/-- slots: 0 self 1 becoming 2 kinds 3 kind -/
theorem sc_Statement_writes : FnScope ["self", "becoming", "kinds", "kind"] ["self"] (defScope s_Statement_writes) := ⟨rfl, rfl, rfl, by decide +kernel, rfl, by decide +kernel, by decide +kernel⟩
abbrev s_Statement_text : Stmt := inClass (top 23) 7
/-- slots: 0 self 1 turns 2 brings 3 kind 4 kinds 5 number -/
theorem sc_Statement_text : FnScope ["self", "turns", "brings", "kind", "kinds", "number"] ["self"] (defScope s_Statement_text) := ⟨rfl, rfl, rfl, by decide +kernel, rfl, by decide +kernel, by decide +kernel⟩
abbrev s_Statement_parse : Stmt := inClass (top 23) 8
/-- slots: 0 cls 1 text -/
theorem sc_Statement_parse : FnScope ["cls", "text"] ["cls", "text"] (defScope s_Statement_parse) := ⟨rfl, rfl, rfl, by decide +kernel, rfl, by decide +kernel, by decide +kernel⟩
abbrev s_l_source : Stmt := top 25
/-- slots: 0 _law_script 1 _law_great 2 _law_seed 3 _law_cell -/
theorem sc_l_source : FnScope ["_law_script", "_law_great", "_law_seed", "_law_cell"] ["_law_script"] (defScope s_l_source) := ⟨rfl, rfl, rfl, by decide +kernel, rfl, by decide +kernel, by decide +kernel⟩
abbrev s_l_draw : Stmt := top 26
/-- slots: 0 _law_source_here 1 _law_many 2 _law_digit 3 _law_mixed -/
theorem sc_l_draw : FnScope ["_law_source_here", "_law_many", "_law_digit", "_law_mixed"] ["_law_source_here", "_law_many"] (defScope s_l_draw) := ⟨rfl, rfl, rfl, by decide +kernel, rfl, by decide +kernel, by decide +kernel⟩
abbrev s_l_pick : Stmt := top 27
/-- slots: 0 _law_source_here 1 _law_things -/
theorem sc_l_pick : FnScope ["_law_source_here", "_law_things"] ["_law_source_here", "_law_things"] (defScope s_l_pick) := ⟨rfl, rfl, rfl, by decide +kernel, rfl, by decide +kernel, by decide +kernel⟩
abbrev s_l_order : Stmt := top 28
/-- slots: 0 _law_source_here 1 _law_many 2 _law_left 3 _law_k -/
theorem sc_l_order : FnScope ["_law_source_here", "_law_many", "_law_left", "_law_k"] ["_law_source_here", "_law_many"] (defScope s_l_order) := ⟨rfl, rfl, rfl, by decide +kernel, rfl, by decide +kernel, by decide +kernel⟩
abbrev s_l_subset : Stmt := top 29
/-- slots: 0 _law_source_here 1 _law_row 2 _law_one -/
theorem sc_l_subset : FnScope ["_law_source_here", "_law_row", "_law_one"] ["_law_source_here", "_law_row"] (defScope s_l_subset) := ⟨rfl, rfl, rfl, by decide +kernel, rfl, by decide +kernel, by decide +kernel⟩
abbrev s_l_name : Stmt := top 30
/-- slots: 0 _law_source_here 1 _law_taken 2 _law_size 3 _law_name_here 4 _law_k 5 _law_sign 6 _law_one -/
theorem sc_l_name : FnScope ["_law_source_here", "_law_taken", "_law_size", "_law_name_here", "_law_k", "_law_sign", "_law_one"] ["_law_source_here", "_law_taken"] (defScope s_l_name) := ⟨rfl, rfl, rfl, by decide +kernel, rfl, by decide +kernel, by decide +kernel⟩
abbrev s_l_names : Stmt := top 31
/-- slots: 0 _law_source_here 1 _law_many 2 _law_names_here 3 _law_k -/
theorem sc_l_names : FnScope ["_law_source_here", "_law_many", "_law_names_here", "_law_k"] ["_law_source_here", "_law_many"] (defScope s_l_names) := ⟨rfl, rfl, rfl, by decide +kernel, rfl, by decide +kernel, by decide +kernel⟩
abbrev s_l_some : Stmt := top 32
/-- slots: 0 _law_source_here 1 _law_things 2 _law_found 3 _law_k -/
theorem sc_l_some : FnScope ["_law_source_here", "_law_things", "_law_found", "_law_k"] ["_law_source_here", "_law_things"] (defScope s_l_some) := ⟨rfl, rfl, rfl, by decide +kernel, rfl, by decide +kernel, by decide +kernel⟩
abbrev s_l_plan : Stmt := top 33
/-- slots: 0 _law_source_here 1 _law_kinds 2 _law_turns 3 _law_brings 4 _law_kind 5 _law_k -/
theorem sc_l_plan : FnScope ["_law_source_here", "_law_kinds", "_law_turns", "_law_brings", "_law_kind", "_law_k"] ["_law_source_here", "_law_kinds"] (defScope s_l_plan) := ⟨rfl, rfl, rfl, by decide +kernel, rfl, by decide +kernel, by decide +kernel⟩
abbrev s_l_rows_text : Stmt := top 34
/-- slots: 0 _law_plan_here 1 _law_turns 2 _law_brings 3 _law_parts 4 _law_kind -/
theorem sc_l_rows_text : FnScope ["_law_plan_here", "_law_turns", "_law_brings", "_law_parts", "_law_kind"] ["_law_plan_here"] (defScope s_l_rows_text) := ⟨rfl, rfl, rfl, by decide +kernel, rfl, by decide +kernel, by decide +kernel⟩
abbrev s_l_tried : Stmt := top 35
/-- slots: 0 _law_one 1 _law_other 2 _law_found 3 _law_join 4 e -/
theorem sc_l_tried : FnScope ["_law_one", "_law_other", "_law_found", "_law_join", "e"] ["_law_one", "_law_other"] (defScope s_l_tried) := ⟨rfl, rfl, rfl, by decide +kernel, rfl, by decide +kernel, by decide +kernel⟩
abbrev s_l_due : Stmt := top 36
/-- slots: 0 _law_plan_here 1 _law_turns 2 _law_brings 3 _law_kind -/
theorem sc_l_due : FnScope ["_law_plan_here", "_law_turns", "_law_brings", "_law_kind"] ["_law_plan_here"] (defScope s_l_due) := ⟨rfl, rfl, rfl, by decide +kernel, rfl, by decide +kernel, by decide +kernel⟩
abbrev s_l_is_right : Stmt := top 37
/-- slots: 0 _law_statement 1 _law_plan_here 2 _law_turns 3 _law_brings 4 _law_writes 5 _law_kind -/
theorem sc_l_is_right : FnScope ["_law_statement", "_law_plan_here", "_law_turns", "_law_brings", "_law_writes", "_law_kind"] ["_law_statement", "_law_plan_here"] (defScope s_l_is_right) := ⟨rfl, rfl, rfl, by decide +kernel, rfl, by decide +kernel, by decide +kernel⟩
abbrev s_l_join_right : Stmt := top 38
/-- slots: 0 _law_one 1 _law_other 2 _law_plans 3 _law_kinds 4 _law_sums 5 _law_bad 6 _law_both 7 _law_many 8 _law_word 9 _law_told 10 _law_kind -/
theorem sc_l_join_right : FnScope ["_law_one", "_law_other", "_law_plans", "_law_kinds", "_law_sums", "_law_bad", "_law_both", "_law_many", "_law_word", "_law_told", "_law_kind"] ["_law_one", "_law_other", "_law_plans", "_law_kinds"] (defScope s_l_join_right) := ⟨rfl, rfl, rfl, by decide +kernel, rfl, by decide +kernel, by decide +kernel⟩
abbrev s_law : Stmt := top 39
/-- slots: 0 _law_script 1 _law_source_here 2 _law_kinds 3 _law_plans 4 _law_way 5 _law_left 6 _law_turns 7 _law_brings 8 _law_one 9 _law_other 10 _law_kind 11 _law_same -/
theorem sc_law : FnScope ["_law_script", "_law_source_here", "_law_kinds", "_law_plans", "_law_way", "_law_left", "_law_turns", "_law_brings", "_law_one", "_law_other", "_law_kind", "_law_same"] ["_law_script"] (defScope s_law) := ⟨rfl, rfl, rfl, by decide +kernel, rfl, by decide +kernel, by decide +kernel⟩
end Lw
/-! ## Src -/
set_option Elab.async false
set_option linter.all false
set_option maxRecDepth 100000
set_option maxHeartbeats 4000000
namespace Lw
open PySem PySem.Spec PyProof.Rows L2 Sl
section
variable {P : Program} {w : World} {K : PySem.W.Frag} {mg : Str → Option Value} {base : Heap} {f : Addr} {fd : FuncData}
abbrev FnP (K : PySem.W.Frag) (x : Str) (st : Stmt) (dvs : List V) (f : Addr) (fd : FuncData) : Prop := FunD K x x (defArgs st) (defBody st) (defScope st) dvs [] f fd
theorem ok_draw (F : FnP K "_law_draw" s_l_draw [] f fd) (mInt : mg "int" = none) : FnOk P w K mg base CX0 1 f fd ["_law_source_here", "_law_many"] sp_draw := by
  refine F.ok sc_l_draw (fun vs H Q E h => ?_) (fun cdv A outer s H vs Q E hr h => ?_)
  · obtain ⟨p, m, n, rfl, _⟩ := h
    rfl
  · obtain ⟨p, m, n, rfl, ⟨g, sd, c, hp, s0, s1, c0, c1⟩, hn, hm, hm2, k⟩ := h
    have nd := sc_l_draw.nd
    refine ⟨_, PSs.nox (pss_cons (ps_asg (pe_op op_add (pe_ix ix_list (pv 0) pe_int (fun _ _ => rfl)) pe_int) (pg_sub (pv 0) pe_int set_list))
      (pss_cons (ps_if (pt_cmpR op_gt (pe_ix ix_list (pv 0) pe_int (fun _ _ => rfl)) pe_int (nomark _))
        (pss_cons (ps_set (i := 2) nd rfl (.inl rfl) (pe_op op_mod (pe_callTy call_int1 (by rfl) mInt boot_int (pa_cons (pe_ix ix_list (pv 0) pe_int (fun _ _ => rfl)) pa_nil)) (pv 1)))
        (pss_cons (ps_asg (pe_op op_fdivW (pe_ix ix_list (pv 0) pe_int (fun _ _ => rfl)) (pv 1)) (pg_sub (pv 0) pe_int set_list))
        (pss_one (ps_ret (pv 2))))) pss_nil)
      (pss_cons (ps_set (i := 3) nd rfl (.inl rfl) (pe_op op_mod (pe_op op_pow (pe_op op_add (pe_ix ix_list (pv 0) pe_int (fun _ _ => rfl)) (pe_op op_mul pe_int (pe_ix ix_list (pv 0) pe_int (fun _ _ => rfl)))) pe_int) pe_int))
      (pss_one (ps_ret (pe_op op_mod (pe_op op_mod (pe_op op_pow (pe_op op_add (pe_op op_add (pe_op op_mul (pv 3) pe_int) (pe_op op_mul (pe_op op_mul pe_int (pe_ix ix_list (pv 0) pe_int (fun _ _ => rfl))) (pe_ix ix_list (pv 0) pe_int (fun _ _ => rfl)))) pe_int) pe_int) pe_int) (pv 1))))))), ?_⟩
    refine ⟨_, rfl, p, _, _, _, rfl, rfl, SqL.of hp, rfl, _, _, rfl, rfl, _, rfl, p, _, _, 2, rfl, rfl, hp, rfl, ?_⟩
    have h1 : (upd H p (.lst [V.int g, V.int sd, V.int (c + 1)])) p = some (.lst [V.int g, V.int sd, V.int (c + 1)]) := upd_same
    refine ⟨_, rfl, p, _, _, _, rfl, rfl, SqL.of h1, rfl, _, _, rfl, rfl, _, rfl, ?_⟩
    refine ite2 (fun _ => ?_) (fun _ => ?_)
    · refine ⟨_, rfl, p, _, _, _, rfl, rfl, SqL.of h1, rfl, .inl ⟨_, rfl, _, rfl, _, _, rfl, rfl, hm, ?_⟩⟩
      refine ⟨_, rfl, p, _, _, _, rfl, rfl, SqL.of h1, rfl, _, rfl, _, _, rfl, rfl, wide_div (b := 200) hm (by omega) (by decide) (by decide), _, rfl, p, _, _, 0, rfl, rfl, h1, rfl, ?_⟩
      refine ⟨_, rfl, ?_⟩
      refine k _ _ (Int.emod_nonneg _ (by omega)) (Int.emod_lt_of_pos _ hm) ⟨g / m, sd, c + 1, upd_same, s0, s1, by omega, by omega⟩ ?_
      intro b o nb hb
      rw [upd_ne nb, upd_ne nb]
      exact hb
    · refine ⟨_, rfl, p, _, _, _, rfl, rfl, SqL.of h1, rfl, _, rfl, p, _, _, _, rfl, rfl, SqL.of h1, rfl, _, _, rfl, rfl, .inl (by decide), _, _, rfl, rfl, _, _, rfl, rfl, ⟨by decide, by decide, by omega⟩, _, _, rfl, rfl, (by show (0 : Int) < 2147483629; decide), ?_⟩
      generalize hz : (sd + 7919 * (c + 1)) ^ (5 : Int).toNat % 2147483629 = z
      have z0 : 0 ≤ z := by rw [← hz]; exact Int.emod_nonneg _ (by decide)
      have z1 : z < 2147483629 := by rw [← hz]; exact Int.emod_lt_of_pos _ (by decide)
      have cc : (16807 * (c + 1)) * (c + 1) ≤ 16807 * 100001 * 100001 := by
        exact Int.mul_le_mul (show 16807 * (c + 1) ≤ 16807 * 100001 by omega) (show c + 1 ≤ 100001 by omega) (by omega) (by omega)
      have cc0 : 0 ≤ (16807 * (c + 1)) * (c + 1) := Int.mul_nonneg (by omega) (by omega)
      refine ⟨_, rfl, _, _, rfl, rfl, .inr (by decide), _, rfl, p, _, _, _, rfl, rfl, SqL.of h1, rfl, _, _, rfl, rfl, .inl (by decide), _, rfl, p, _, _, _, rfl, rfl, SqL.of h1, rfl, _, _, rfl, rfl, .inl ⟨by omega, by omega⟩, _, _, rfl, rfl, _, _, rfl, rfl, _, _, rfl, rfl, ⟨by decide, by decide, by omega⟩, _, _, rfl, rfl, (by show (0 : Int) < 1000000007; decide), _, rfl, _, _, rfl, rfl, hm, ?_⟩
      refine k _ _ (Int.emod_nonneg _ (by omega)) (Int.emod_lt_of_pos _ hm) ⟨g, sd, c + 1, h1, s0, s1, by omega, by omega⟩ Keep.upd
end
end Lw
/-! ## Src2 -/
set_option Elab.async false
set_option linter.all false
set_option maxRecDepth 100000
set_option maxHeartbeats 4000000
namespace Lw
open PySem PySem.Spec PyProof.Rows L2 Sl
section
variable {P : Program} {w : World} {K : PySem.W.Frag} {mg : Str → Option Value} {base : Heap} {f : Addr} {fd : FuncData}
theorem ok_source (F : FnP K "_law_source" s_l_source [] f fd) (mInt : mg "int" = none) : FnOk P w K mg base CX0 1 f fd ["_law_script"] (sp_source K) := by
  refine F.ok sc_l_source (fun vs H Q E h => ?_) (fun cdv A outer s H vs Q E hr h => ?_)
  · obtain ⟨a, ns, rfl, _⟩ := h
    rfl
  · obtain ⟨a, ns, rfl, hS, hl, k⟩ := h
    have nd := sc_l_source.nd
    refine ⟨_, PSs.nox (pss_cons (ps_asg (pe_tup (pa_cons pe_int (pa_cons pe_int pa_nil))) (pg_tup rfl (pgs_cons (pg_name (i := 1) nd rfl (.inl rfl)) (pgs_cons (pg_name (i := 2) nd rfl (.inl rfl)) pgs_nil))))
      (pss_cons (ps_for PassesOwn.never rfl (pi_list (pv 0)) (pg_name (i := 3) nd rfl (Or.inl rfl))
        (pss_cons (ps_if (PW.pt (pw_and (pt_cmpR op_eq (pv 1) pe_int (nomark _)) (pw_and1 (pt_cmpR op_ge (pv 3) (pe_op op_pow pe_int pe_int) (nomark _)))))
          (pss_one (ps_set (i := 1) nd rfl (.inl rfl) (pv 3))) pss_nil)
        (pss_one (ps_set (i := 2) nd rfl (.inl rfl) (pe_op op_mod (pe_callTy call_int1 (by rfl) mInt boot_int (pa_cons (pe_op op_add (pe_op op_add (pe_op op_mul (pv 2) pe_int) (pv 3)) pe_int) pa_nil)) pe_int)))))
      (pss_one (ps_ret (pe_lst (pa_cons (pv 1) (pa_cons (pv 2) (pa_cons pe_int pa_nil)))))))), ?_⟩
    refine ⟨(by show 2 ≤ sizeLine; decide), fun t ht => ?_⟩
    refine ⟨t, _, rfl, SqT.of upd_same, rfl, _, _, rfl, _, _, rfl, rfl, ?_⟩
    have s1 : Same H (upd H t (.tup [V.int 0, V.int 17])) := fun b o e => by
      rw [upd_ne (ne_of_none e ht)]
      exact e
    generalize hH : upd H t (.tup [V.int 0, V.int 17]) = H1 at s1
    refine ⟨_, rfl, a, rfl, ⟨_, s1.seq hS⟩, for_list (K := K) (a := a) (xs := ns.map V.int) (fun i σ H2 => ∃ (g sd : Int) (v : Option V), σ = [some (.ref a), some (.int g), some (.int sd), v] ∧ H2 = H1 ∧ 0 ≤ sd ∧ sd < 2147483647)
      ⟨0, 17, none, rfl, rfl, by decide, by decide⟩ (fun i σ H2 _ ⟨_, _, _, _, e, _⟩ => by rw [e]; exact s1.seq hS) ?_ ?_⟩
    · rintro i y σ H2 hi ⟨g, sd, v, rfl, rfl, h0, h1⟩
      obtain ⟨z, rfl⟩ : ∃ z, y = V.int z := by
        rw [List.getElem?_map] at hi
        cases e : ns[i]? with
        | none =>
          rw [e] at hi
          cases hi
        | some z =>
          rw [e] at hi
          exact ⟨z, (Option.some.inj hi).symm⟩
      refine ⟨_, rfl, rfl, _, rfl, ?_⟩
      refine ite2 (fun hz => ?_) (fun hz => ?_)
      · refine ⟨_, rfl, _, _, rfl, rfl, ⟨by decide, by decide, by decide⟩, _, _, rfl, rfl, _, rfl, ?_⟩
        refine ite2 (fun _ => ?_) (fun _ => ?_)
        · refine ⟨_, rfl, ?_⟩
          refine ⟨_, rfl, _, _, rfl, rfl, .inl ⟨by omega, by omega⟩, _, rfl, _, _, rfl, rfl, _, _, rfl, rfl, .inl ⟨_, rfl, ?_⟩⟩
          refine ⟨_, _, rfl, rfl, (by show (0 : Int) < 2147483647; decide), ?_⟩
          exact ⟨_, _, _, rfl, rfl, Int.emod_nonneg _ (by decide), Int.emod_lt_of_pos _ (by decide)⟩
        · refine ⟨_, rfl, _, _, rfl, rfl, .inl ⟨by omega, by omega⟩, _, rfl, _, _, rfl, rfl, _, _, rfl, rfl, .inl ⟨_, rfl, ?_⟩⟩
          refine ⟨_, _, rfl, rfl, (by show (0 : Int) < 2147483647; decide), ?_⟩
          exact ⟨_, _, _, rfl, rfl, Int.emod_nonneg _ (by decide), Int.emod_lt_of_pos _ (by decide)⟩
      · refine iteF ?_
        refine ⟨_, rfl, _, _, rfl, rfl, .inl ⟨by omega, by omega⟩, _, rfl, _, _, rfl, rfl, _, _, rfl, rfl, .inl ⟨_, rfl, ?_⟩⟩
        refine ⟨_, _, rfl, rfl, (by show (0 : Int) < 2147483647; decide), ?_⟩
        exact ⟨_, _, _, rfl, rfl, Int.emod_nonneg _ (by decide), Int.emod_lt_of_pos _ (by decide)⟩
    · rintro σ H2 ⟨g, sd, v, rfl, rfl, h0, h1⟩
      refine ⟨_, rfl, _, rfl, (by show 3 ≤ sizeLine; decide), fun p hp => ?_⟩
      refine k p _ (s1.free hp) ⟨g, sd, 0, upd_same, h0, h1, by omega, by omega⟩ fun b o hb => ?_
      rw [upd_ne (ne_of_none (s1 b o hb) hp)]
      exact s1 b o hb
end
end Lw
/-! ## SrcPick -/
set_option Elab.async false
set_option linter.all false
set_option maxRecDepth 100000
set_option maxHeartbeats 4000000
namespace Lw
open PySem PySem.Spec PyProof.Rows L2 Sl
section
variable {P : Program} {w : World} {K : PySem.W.Frag} {mg : Str → Option Value} {base : Heap} {f : Addr} {fd : FuncData}
def sp_pick (K : PySem.W.Frag) : Sp := fun vs H Q _ => ∃ (p q : Addr) (xs : List V) (n : Nat), vs = [.ref p, .ref q] ∧ SrcAt H p n ∧ n ≤ 100000 ∧ SqL K H q xs ∧ q ≠ p ∧ 0 < xs.length ∧ xs.length ≤ 100000 ∧
  ∀ (v : V) (H' : Hp), v ∈ xs → SrcAt H' p (n + 1) → Keep p H H' → Q v H'
theorem ok_pick (F : FnP K "_law_pick" s_l_pick [] f fd) (D : Cal P w K mg base 1 "_law_draw" [] sp_draw) (mLen : mg "len" = none) : FnOk P w K mg base CX0 2 f fd ["_law_source_here", "_law_things"] (sp_pick K) := by
  refine F.ok sc_l_pick (fun vs H Q E h => ?_) (fun cdv A outer s H vs Q E hr h => ?_)
  · obtain ⟨p, q, xs, n, rfl, _⟩ := h
    rfl
  · obtain ⟨p, q, xs, n, rfl, hp, hn, hq, ne, h0, h1, k⟩ := h
    refine ⟨_, PSs.nox (pss_one (ps_ret (pe_ix ix_list (pv 1) (pe_cal D hr (pa_cons (pv 0) (pa_cons (pe_callB call_len_seq (by rfl) mLen boot_len (pa_cons (pv 1) pa_nil)) pa_nil))) (fun _ _ => rfl)))), ?_⟩
    refine ⟨_, rfl, _, rfl, _, rfl, q, _, rfl, .inl hq, p, _, n, rfl, hp, hn, by omega, by omega, fun j H' j0 j1 hp' kp => ?_⟩
    have hj : j.toNat < xs.length := by omega
    exact ⟨q, xs, j, xs[j.toNat], rfl, rfl, kp.seq ne hq, atI_int j0 (List.getElem?_eq_getElem hj), k _ _ (List.getElem_mem hj) hp' kp⟩
end
end Lw
/-! ## NamA -/
set_option Elab.async false
set_option linter.all false
set_option maxRecDepth 100000
set_option maxHeartbeats 4000000
namespace Sl
open PySem PySem.Spec PyProof.Rows L2 TL
/-! ### names -/
abbrev alpha : Str := "abcdefghijklmnopqrstuvwxyz"
def letB (c : Nat) : Bool := decide (c ∈ alpha.cps.toList)
def nameB (z : Str) : Bool := decide (1 ≤ z.length) && (decide (z.length ≤ 8) && z.cps.toList.all letB)
theorem nameB_of {z : Str} (h1 : 1 ≤ z.length) (h2 : z.length ≤ 8) (h3 : ∀ c ∈ z.cps.toList, letB c = true) : nameB z = true := by
  unfold nameB
  rw [decide_eq_true h1, decide_eq_true h2, List.all_eq_true.mpr h3]
  rfl
theorem nameB_len {z : Str} (h : nameB z = true) : 1 ≤ z.length ∧ z.length ≤ 8 := by
  unfold nameB at h
  simp only [Bool.and_eq_true, decide_eq_true_eq] at h
  exact ⟨h.1, h.2.1⟩
theorem nameB_all {z : Str} (h : nameB z = true) : ∀ c ∈ z.cps.toList, letB c = true := by
  unfold nameB at h
  simp only [Bool.and_eq_true, decide_eq_true_eq] at h
  exact List.all_eq_true.mp h.2.2
/-- the text of these signs -/
def oneS (c : Nat) : Str := ⟨#[c]⟩
theorem joinL_ones : ∀ cs : List Nat, joinL [] ((cs.map oneS).map tl) = cs
  | [] => rfl
  | [_] => rfl
  | x :: z :: r => by
    show [x] ++ ([] ++ joinL [] (((z :: r).map oneS).map tl)) = x :: z :: r
    rw [joinL_ones (z :: r)]
    rfl
theorem join_ones (cs : List Nat) : Txt.join (⟨#[]⟩ : Str) (cs.map oneS) = ⟨cs.toArray⟩ := by
  rw [join_eq]
  refine ext_tl ?_
  rw [tl_join]
  show joinL [] _ = cs.toArray.toList
  rw [joinL_ones]
theorem join_none (cs : List Nat) : Txt.join (Str.ofString "") (cs.map oneS) = ⟨cs.toArray⟩ := Sl.join_ones cs
theorem inV_str {x : Str} {xs : List Str} : inV (.str x) (xs.map V.str) = decide (x ∈ xs) := by
  induction xs with
  | nil => rfl
  | cons y ys ih =>
    show (eqV (.str y) (.str x) || inV (.str x) (ys.map V.str)) = _
    rw [ih]
    show ((y == x) || decide (x ∈ ys)) = decide (x ∈ y :: ys)
    by_cases h : y = x
    · subst h
      simp
    · have h' : (y == x) = false := by simpa using h
      rw [h']
      have h2 : x ≠ y := fun e => h e.symm
      simp [h2]
theorem flat_strs (xs : List Str) : (xs.map V.str).all flatV = true := by
  rw [List.all_map]
  exact List.all_eq_true.mpr fun _ _ => rfl
/-- more than can be found there -/
theorem one_not_in {α : Type} [DecidableEq α] : ∀ (xs ys : List α), xs.Nodup → ys.length < xs.length → ∃ x, x ∈ xs ∧ x ∉ ys
  | [], ys, _, h => absurd h (Nat.not_lt_zero _)
  | x :: xs, ys, hn, h => by
    by_cases hx : x ∈ ys
    · obtain ⟨h1, h2⟩ := List.nodup_cons.mp hn
      have hl : (ys.erase x).length < xs.length := by
        rw [List.length_erase_of_mem hx]
        have := List.length_pos_of_mem hx
        simp only [List.length_cons] at h
        omega
      obtain ⟨z, hz, hny⟩ := one_not_in xs (ys.erase x) h2 hl
      refine ⟨z, List.mem_cons_of_mem _ hz, fun q => hny ?_⟩
      have ne : z ≠ x := fun e => h1 (e ▸ hz)
      exact (List.mem_erase_of_ne ne).mpr q
    · exact ⟨x, List.mem_cons_self, hx⟩
theorem tl_cut1 {z : Str} (h : 1 ≤ z.length) : tl (cutS z (some 1) none) = (tl z).drop 1 := by
  have e1 : HT.sIx z.length 0 (some 1) = 1 := by
    have : HT.sIx z.length 0 (some ((1 : Nat) : Int)) = 1 := by
      rw [HT.sIx_nat]
      omega
    exact this
  have e2 : HT.sIx z.length z.length none = z.length := rfl
  show ((z.cps.toList.drop (HT.sIx z.length 0 (some 1))).take (HT.sIx z.length z.length none - HT.sIx z.length 0 (some 1))).toArray.toList = _
  rw [e1, e2]
  show List.take (z.length - 1) (List.drop 1 (tl z)) = _
  rw [List.take_of_length_le]
  rw [List.length_drop, len_tl]
  omega
theorem tl_app (a b : Str) : tl (a ++ b) = tl a ++ tl b := by
  show (a.cps ++ b.cps).toList = _
  rw [Array.toList_append]
theorem nameB_q {z : Str} (h : nameB z = true) (h7 : z.length ≤ 8) : nameB (("q" : Str) ++ cutS z (some 1) none) = true := by
  have e : tl (("q" : Str) ++ cutS z (some 1) none) = 113 :: (tl z).drop 1 := by
    rw [tl_app, tl_cut1 (nameB_len h).1]
    rfl
  have l : (("q" : Str) ++ cutS z (some 1) none).length = 1 + ((tl z).drop 1).length := by
    rw [len_tl, e, List.length_cons]
    omega
  have lz := len_tl z
  refine nameB_of ?_ ?_ ?_
  · rw [l]
    omega
  · rw [l, List.length_drop]
    have := (nameB_len h).1
    omega
  · intro c hc
    rw [show (("q" : Str) ++ cutS z (some 1) none).cps.toList = 113 :: (tl z).drop 1 from e] at hc
    rcases List.mem_cons.mp hc with h1 | h1
    · subst h1
      decide +kernel
    · exact nameB_all h c (List.mem_of_mem_drop h1)
theorem sum_ones : ∀ cs : List Nat, ((cs.map oneS).map (fun z : Str => z.length)).sum = cs.length
  | [] => rfl
  | c :: r => by
    show (oneS c).length + ((r.map oneS).map (fun z : Str => z.length)).sum = r.length + 1
    rw [sum_ones r]
    show 1 + r.length = r.length + 1
    omega
abbrev rAddS : R2 := fun x y H Q => ∃ i j, x = .str i ∧ y = .str j ∧ i.length + j.length ≤ sizeLine ∧ Q (.str (i ++ j)) H
def zs : List Str := alpha.cps.toList.map fun c => ("z" : Str) ++ oneS c
theorem zs_nodup : zs.Nodup := by decide +kernel
theorem zs_names : zs.all nameB = true := by decide +kernel
theorem zs_len : zs.length = 26 := by decide +kernel
/-- what a drawn name may be -/
def sixW : List Str := ["old", "new", "do", "add", "set", "refuse"]
def drawn (z : Str) : Prop := nameB z = true ∧ (z.length ≤ 3 ∨ z.length = 8 ∨ z ∈ sixW ∨ ∃ r, tl z = 113 :: r)
theorem zs_drawn : ∀ z ∈ zs, drawn z := fun z hz => by
  have h := List.all_eq_true.mp (show (zs.all fun z => nameB z && decide (z.length ≤ 3)) = true by decide +kernel) z hz
  obtain ⟨h1, h2⟩ := Bool.and_eq_true_iff.mp h
  exact ⟨h1, .inl (of_decide_eq_true h2)⟩
theorem drawn_q {z : Str} (h : nameB z = true) (h7 : z.length ≤ 8) : drawn (("q" : Str) ++ cutS z (some 1) none) := by
  refine ⟨nameB_q h h7, .inr (.inr (.inr ⟨(tl z).drop 1, ?_⟩))⟩
  rw [tl_app, tl_cut1 (nameB_len h).1]
  rfl
/-- not drawn: four to seven signs, none of the six, no q ahead -/
theorem not_drawn {z : Str} (h1 : ¬ z.length ≤ 3) (h2 : z.length ≠ 8) (h3 : z ∉ sixW) (h4 : ∀ r, tl z ≠ 113 :: r) : ¬ drawn z := fun ⟨_, h⟩ => by
  rcases h with h | h | h | ⟨r, h⟩
  · exact h1 h
  · exact h2 h
  · exact h3 h
  · exact h4 r h
theorem nobody_not : ¬ drawn "nobody" := not_drawn (by decide +kernel) (by decide +kernel) (by decide +kernel) (fun r e => by
  have : (tl ("nobody" : Str)).head? = some 113 := by rw [e]; rfl
  exact absurd this (by decide +kernel))
theorem late_not : ¬ drawn "late" := not_drawn (by decide +kernel) (by decide +kernel) (by decide +kernel) (fun r e => by
  have : (tl ("late" : Str)).head? = some 113 := by rw [e]; rfl
  exact absurd this (by decide +kernel))
/-! ### draws, read -/
theorem at_in {α : Type} {xs : List α} {j : Int} (h0 : 0 ≤ j) (h1 : j < (xs.length : Int)) : ∃ v, atI xs j = some v ∧ v ∈ xs := by
  have hj : j.toNat < xs.length := by omega
  exact ⟨xs[j.toNat], atI_int h0 (List.getElem?_eq_getElem hj), List.getElem_mem hj⟩
theorem draw_of {σ : L2.St} {H : Hp} {Q : VK} {i : Nat} {m : Int} {n : Nat} {p : Addr} (h : σ[i]? = some (some (.ref p))) (hp : SrcAt H p n) (hn : n ≤ 100000) (h0 : 0 < m) (h1 : m < 2 ^ 200)
    (k : ∀ (j : Int) (H' : Hp), 0 ≤ j → j < m → SrcAt H' p (n + 1) → Keep p H H' → Q (.int j) H') : tCall sp_draw [] E0 (tCons (tVar i) (tCons (tC (.int m)) tNil)) σ H Q :=
  ⟨_, h, p, m, n, rfl, hp, hn, h0, h1, k⟩
theorem same_new {H : Hp} {p : Addr} {o : HO} (hp : H p = none) : Same H (L2.upd H p o) := fun b u e => by
  rw [upd_ne (ne_of_none e hp)]
  exact e
theorem sq_same {K : PySem.W.Frag} {a : Addr} {H H' : Hp} {xs : List V} (h : SqL K H a xs) (k : Same H H') : SqL K H' a xs := by
  rcases h with (h | ⟨o, h⟩) | h
  · exact .inl (.inl (k _ _ h))
  · exact .inl (.inr ⟨o, k _ _ h⟩)
  · exact .inr h
theorem alpha_size : alpha.cps.size = 26 := by decide +kernel
theorem Keep.of_same {p : Addr} {H H' : Hp} (h : Same H H') : Keep p H H' := fun b o _ e => h b o e
theorem asg_of {te : TE} {i : Nat} {u : TS} {D : Ends} {σ : L2.St} {H : Hp} (h : te σ H fun x H1 => u D (σ.set i (some x)) H1) : tSeq (tAsg te (gName i)) u D σ H := h
theorem ifs_of {c : TT} {t u v : TS} {D : Ends} {σ : L2.St} {H : Hp} (h : c σ H fun b H1 => if b = true then t { D with nx := v D } σ H1 else u { D with nx := v D } σ H1) : tSeq (tIfS c t u) v D σ H := h
theorem or_of {A B : TT} {σ : L2.St} {H : Hp} {Q : Bool → Hp → Prop} (h : A σ H fun c H1 => if c = true then Q true H1 else B σ H1 Q) : tOr A B σ H Q := h
theorem test_of {r : R2} {ta tb : TE} {σ : L2.St} {H : Hp} {Q : Bool → Hp → Prop} (h : ta σ H fun x H1 => tb σ H1 fun y H2 => r x y H2 fun x H' => ∃ k, x = .bl k ∧ Q k H') : tTest (tOp r ta tb) σ H Q := h
theorem nx_of {v : TS} {D D' : Ends} {σ : L2.St} {H : Hp} (h : v D σ H) : tNext { D' with nx := v D } σ H := h
theorem yes_of {σ : L2.St} {H : Hp} {Q : Bool → Hp → Prop} (h : Q true H) : tYes σ H Q := h
theorem ite_of {P1 P2 : Prop} {c : Bool} (h1 : c = true → P1) (h2 : c = false → P2) : if c = true then P1 else P2 := by
  cases c with
  | true => exact iteT (h1 rfl)
  | false => exact iteF (h2 rfl)

theorem TyX.same {K : PySem.W.Frag} {H H' : Hp} {v : V} {t : Value} (h : TyX K H v t) (k : Same H H') : TyX K H' v t := by
  cases h with
  | base b =>
    cases b with
    | non => exact .base .non
    | bl y => exact .base (.bl y)
    | int i => exact .base (.int i)
    | str y => exact .base (.str y)
    | flt y => exact .base (.flt y)
    | lst e => exact .base (.lst (k _ _ e))
    | frz e => exact .base (.frz (k _ _ e))
    | tup e => exact .base (.tup (k _ _ e))
    | dK e => exact .base (.dK (k _ _ e))
    | dT e => exact .base (.dT (k _ _ e))
    | ins e cl ha hn htk hm => exact .base (.ins (k _ _ e) cl ha hn htk hm)
  | byt y => exact .byt y
  | set e => exact .set (k _ _ e)
  | kList e c => exact .kList e c
  | kTuple e c => exact .kTuple e c
  | kDict e c => exact .kDict e c
  | fTuple e => exact .fTuple (k _ _ e)
  | fDict e => exact .fDict (k _ _ e)
end Sl
/-! ## NamB -/
set_option Elab.async false
set_option linter.all false
set_option maxRecDepth 100000
set_option maxHeartbeats 8000000
namespace Lw
open PySem PySem.Spec PyProof.Rows L2 Sl
section
variable {P : Program} {w : World} {K : PySem.W.Frag} {mg : Str → Option Value} {base : Heap} {f : Addr} {fd : FuncData}
def sp_name (K : PySem.W.Frag) : Sp := fun vs H Q _ => ∃ (p q : Addr) (xs : List Str) (n : Nat), vs = [.ref p, .ref q] ∧ SrcAt H p n ∧ n ≤ 99000 ∧ SqL K H q (xs.map V.str) ∧ q ≠ p ∧ xs.length ≤ 25 ∧
  ∀ (z : Str) (H' : Hp), drawn z → z ∉ xs → SrcAt H' p (n + 10) → Keep p H H' → Q (.str z) H'
abbrev nameN : List Str := ["_law_source_here", "_law_taken", "_law_size", "_law_name_here", "_law_k", "_law_sign", "_law_one"]
theorem ok_name (F : FnP K "_law_name" s_l_name [] f fd) (D : Cal P w K mg base 1 "_law_draw" [] sp_draw) (mR : mg "range" = none) : FnOk P w K mg base CX0 2 f fd ["_law_source_here", "_law_taken"] (sp_name K) := by
  refine F.ok sc_l_name (fun vs H Q E h => ?_) (fun cdv A outer s H vs Q E hr h => ?_)
  · obtain ⟨p, q, xs, n, rfl, _⟩ := h
    rfl
  · obtain ⟨p, q, xs, n, rfl, hp, hn, hq, ne, hx, k⟩ := h
    have nd := sc_l_name.nd
    refine ⟨_, PSs.nox (pss_cons (ps_set (i := 2) nd rfl (.inl rfl) (pe_ix ix_list (pe_lst (pa_cons pe_int (pa_cons pe_int (pa_cons pe_int (pa_cons pe_int (pa_cons pe_int (pa_cons pe_int (pa_cons pe_int (pa_cons pe_int (pa_cons pe_int (pa_cons pe_int (pa_cons pe_int (pa_cons pe_int (pa_cons pe_int pa_nil))))))))))))))
        (pe_cal D hr (pa_cons (pv 0) (pa_cons pe_int pa_nil))) (fun _ _ => rfl)))
      (pss_cons (ps_set (i := 3) nd rfl (.inl rfl) (pe_join pe_str (pe_lc (own := [("_law_k", 4)]) (g := gName 4) (tt := tYes) rfl nd (pi_range1 (by rfl) mR (pa_cons (pv 2) pa_nil)) (blkOk_by (N := nameN) (sc := defScope s_l_name) (by decide +kernel)) (fun _ _ _ _ _ => pg_name (i := 4) nd rfl (Or.inl rfl)) (fun _ _ _ _ _ => pts_nil)
          (fun _ _ _ _ _ => pe_ix (r := rIxS) ix_str pe_str (pe_cal D hr (pa_cons (pv 0) (pa_cons pe_int pa_nil))) (fun _ _ => rfl)))))
      (pss_cons (ps_if (pt_chain op_lt op_lt pe_int (pv 2) pe_int)
          (pss_one (ps_set (i := 3) nd rfl (.inl rfl) (pe_ix ix_list (pe_lst (pa_cons pe_str (pa_cons pe_str (pa_cons pe_str (pa_cons pe_str (pa_cons pe_str (pa_cons pe_str (pa_cons (pe_op (r := rAddS) op_add_str pe_str (pe_slice sl_str (pv 3) (po_some pe_int) po_none)) pa_nil))))))))
            (pe_cal D hr (pa_cons (pv 0) (pa_cons pe_int pa_nil))) (fun _ _ => rfl)))) pss_nil)
      (pss_cons (ps_if (pt_cmpR (r := rIn K true) op_notIn_seq (pv 3) (pv 1) (by rfl)) (pss_one (ps_ret (pv 3))) pss_nil)
      (pss_one (ps_ret (pe_ix ix_list (pe_lc (own := [("_law_one", 6)]) (g := gName 6) rfl nd (pi_list (pe_lc (own := [("_law_sign", 5)]) (g := gName 5) (tt := tYes) rfl nd (pi_str pe_str) (blkOk_by (N := nameN) (sc := defScope s_l_name) (by decide +kernel)) (fun _ _ _ _ _ => pg_name (i := 5) nd rfl (Or.inl rfl)) (fun _ _ _ _ _ => pts_nil)
            (fun _ _ _ _ _ => pe_op (r := rAddS) op_add_str pe_str (pv 5)))) (blkOk_by (N := nameN) (sc := defScope s_l_name) (by decide +kernel)) (fun _ _ _ _ _ => pg_name (i := 6) nd rfl (Or.inl rfl)) (fun _ _ _ _ _ => pts_one (pt_cmpR (r := rIn K true) op_notIn_seq (pv 6) (pv 1) (by rfl)))
            (fun _ _ _ _ _ => (pv 6))) pe_int (fun _ _ => rfl)))))))), ?_⟩
    show tSeq (tAsg (tOp (rIxL K) (tLst (tCons (tC (.int 8)) _)) (tCall sp_draw [] E0 (tCons (tVar 0) (tCons (tC (.int 13)) tNil)))) (gName 2)) _ _ [some (V.ref p), some (V.ref q), none, none, none, none, none] H
    refine asg_of ⟨(by show 13 ≤ sizeLine; decide), fun a1 ha1 => ?_⟩
    obtain ⟨po, hpo⟩ := hp.there
    have na1 : a1 ≠ p := fun e => by rw [e, hpo] at ha1; cases ha1
    refine draw_of rfl (hp.new ha1) (by omega) (by decide) (by decide +kernel) fun j1 H1 j10 j11 hp1 k1 => ?_
    obtain ⟨v1, hv1, mv1⟩ := at_in (xs := [V.int 8, .int 4, .int 5, .int 6, .int 7, .int 1, .int 2, .int 3, .int 1, .int 2, .int 3, .int 1, .int 2]) j10 j11
    refine ⟨a1, _, j1, v1, rfl, rfl, SqL.of (k1 _ _ na1 upd_same), hv1, ?_⟩
    have hi : ∃ m : Nat, v1 = .int (m : Int) ∧ 1 ≤ m ∧ m ≤ 8 := by
      simp only [List.mem_cons, List.not_mem_nil, or_false] at mv1
      rcases mv1 with h | h | h | h | h | h | h | h | h | h | h | h | h <;> subst h
      · exact ⟨8, rfl, by decide, by decide⟩
      · exact ⟨4, rfl, by decide, by decide⟩
      · exact ⟨5, rfl, by decide, by decide⟩
      · exact ⟨6, rfl, by decide, by decide⟩
      · exact ⟨7, rfl, by decide, by decide⟩
      · exact ⟨1, rfl, by decide, by decide⟩
      · exact ⟨2, rfl, by decide, by decide⟩
      · exact ⟨3, rfl, by decide, by decide⟩
      · exact ⟨1, rfl, by decide, by decide⟩
      · exact ⟨2, rfl, by decide, by decide⟩
      · exact ⟨3, rfl, by decide, by decide⟩
      · exact ⟨1, rfl, by decide, by decide⟩
      · exact ⟨2, rfl, by decide, by decide⟩
    obtain ⟨m, rfl, m1, m8⟩ := hi
    have kk1 : Keep p H H1 := (Keep.new ha1).trans k1
    clear k1 mv1 hv1
    -- the letters
    show tSeq (tAsg (tM1 _ (tC (.str _)) (tLc (iRng1 (tCons (tVar 2) tNil)) (gName 4) tYes (tOp rIxS (tC (.str alpha)) (tCall sp_draw [] E0 (tCons (tVar 0) (tCons (tC (.int 26)) tNil)))) [4])) (gName 3)) _ _ [some (V.ref p), some (V.ref q), some (V.int (m : Int)), none, none, none, none] H1
    refine asg_of ⟨⟨_, rfl⟩, _, rfl, (m : Int), rfl, by omega, by omega, fun D hD => ?_⟩
    refine lc_range (lo := 0) (n := m) (fun i H' => SrcAt H' p (n + 1 + i) ∧ Keep p H1 H' ∧ ∃ cs : List Nat, cs.length = i ∧ (∀ c ∈ cs, letB c = true) ∧ H' D = some (.lst ((cs.map oneS).map V.str))) ⟨hp1.new hD, Keep.new hD, [], rfl, fun _ h => absurd h List.not_mem_nil, upd_same⟩ ?_ ?_
    · intro i H' hi ⟨hp2, kp2, cs, lc, hc, hd⟩
      refine ⟨rfl, yes_of (iteT ?_)⟩
      refine draw_of rfl hp2 (by omega) (by decide) (by decide +kernel) fun j2 H3 j20 j21 hp3 k3 => ?_
      obtain ⟨c, hv2, mc⟩ := at_in (xs := alpha.cps.toList) j20 j21
      have nD : D ≠ p := fun e => by
        obtain ⟨po1, hpo1⟩ := hp1.there
        rw [e, hpo1] at hD
        cases hD
      refine ⟨_, j2, c, rfl, rfl, (by show 26 ≤ sizeLine; decide), hv2, _, k3 _ _ nD hd, ?_, ?_⟩
      · rw [List.length_map, List.length_map, lc, sizeLine_eq]
        omega
      · refine ⟨?_, ?_, cs ++ [c], ?_, ?_, ?_⟩
        · obtain ⟨g, sd, cc, e, z⟩ := hp3
          exact ⟨g, sd, cc, by rw [upd_ne nD.symm]; exact e, z⟩
        · intro b o nb e
          have nbD : b ≠ D := fun e2 => by rw [e2, hD] at e; cases e
          rw [upd_ne nbD]
          exact k3 _ _ nb (kp2 _ _ nb e)
        · rw [List.length_append, lc]
          rfl
        · intro d hd2
          rcases List.mem_append.mp hd2 with h1 | h1
          · exact hc d h1
          · rw [List.mem_singleton.mp h1]
            exact decide_eq_true mc
        · rw [upd_same, List.map_append, List.map_append]
          rfl
    · intro H2 ⟨hp2, kp2, cs, lc, hc, hd⟩
      refine ⟨_, D, cs.map oneS, rfl, rfl, .inl (SqL.of hd), ?_, ?_⟩
      · rw [sum_ones, lc]
        show m + (cs.map oneS).length * 0 ≤ 16777216
        omega
      rw [join_none]
      have nz : nameB ⟨cs.toArray⟩ = true := nameB_of (by show 1 ≤ cs.toArray.size; rw [List.size_toArray, lc]; exact m1) (by show cs.toArray.size ≤ 8; rw [List.size_toArray, lc]; exact m8) (by simpa using hc)
      have lz : (⟨cs.toArray⟩ : Str).length = m := by show cs.toArray.size = m; rw [List.size_toArray, lc]
      generalize (⟨cs.toArray⟩ : Str) = z at nz lz
      have kk2 := kk1.trans kp2
      clear hd hc lc kp2
      show tSeq (tIfS (tTest (tChain _ _ (tC (.int 3)) (tVar 2) (tC (.int 8)))) _ tNext) _ _ [some (V.ref p), some (V.ref q), some (V.int (m : Int)), some (V.str z), none, none, none] H2
      have hp9 := hp2.mono (show n + 1 + m ≤ n + 9 by omega)
      have rest : ∀ (z' : Str) (H3 : Hp), drawn z' → SrcAt H3 p (n + 10) → Keep p H H3 → tSeq (tIfS (tTest (tOp (rIn K true) (tVar 3) (tVar 1))) (tRet (tVar 3)) tNext)
          (tRet (tOp (rIxL K) (tLc (iList K (tLc (iStr (tC (.str alpha))) (gName 5) tYes (tOp rAddS (tC (.str "z")) (tVar 5)) [5])) (gName 6) (tTest (tOp (rIn K true) (tVar 6) (tVar 1))) (tVar 6) [6]) (tC (.int 0)))) { nx := fun _ H' => Q .non H', rt := Q } [some (V.ref p), some (V.ref q), some (V.int (m : Int)), some (V.str z'), none, none, none] H3 := by
        intro z' H3 nz' hp3 kk3
        have hq3 := kk3.seq ne hq
        refine ifs_of (test_of ⟨_, rfl, _, rfl, q, _, rfl, .inl hq3, rfl, flat_strs xs, _, rfl, ite_of (fun c => ?_) (fun _ => ?_)⟩)
        · rw [inV_str] at c
          refine ⟨_, rfl, k z' H3 nz' (fun hz => ?_) hp3 kk3⟩
          rw [decide_eq_true hz] at c
          cases c
        · refine ⟨alpha, rfl, fun D1 hD1 => ?_⟩
          refine lc_it walk_str (fun i H' => Same H3 H' ∧ H' D1 = some (.lst (((alpha.cps.toList.take i).map fun c => ("z" : Str) ++ oneS c).map V.str))) ⟨same_new hD1, upd_same⟩ (fun _ _ _ _ => trivial) ?_ ?_
          · intro i x Ha Hb hi ⟨s1, hd1⟩ ⟨e, c, hc, ex⟩
            subst e ex
            refine ⟨rfl, yes_of (iteT ?_)⟩
            refine ⟨_, rfl, ("z" : Str), oneS c, rfl, rfl, (by show 1 + 1 ≤ sizeLine; decide), _, hd1, ?_, ?_, ?_⟩
            · have hi' : i < 26 := by rw [← alpha_size]; exact hi
              rw [List.length_map, List.length_map, List.length_take, sizeLine_eq]
              omega
            · intro b o e
              rw [upd_ne (ne_of_none e hD1)]
              exact s1 _ _ e
            · have hc' : alpha.cps.toList[i]? = some c := by
                rw [Array.getElem?_toList]
                exact hc
              rw [upd_same, List.take_succ, hc', List.map_append, List.map_append]
              rfl
          · intro H4 ⟨s4, hd4⟩
            have e26 : (alpha.cps.toList.take alpha.cps.size).map (fun c => ("z" : Str) ++ oneS c) = zs := by decide +kernel
            rw [e26] at hd4
            refine ⟨D1, rfl, ⟨_, SqL.of hd4⟩, fun D2 hD2 => ?_⟩
            have hq4 : SqL K H4 q (xs.map V.str) := sq_same hq3 s4
            refine lc_list (xs := zs.map V.str) (fun i H' => Same H4 H' ∧ H' D2 = some (.lst (((zs.take i).filter fun z => decide (z ∉ xs)).map V.str))) ⟨same_new hD2, upd_same⟩ (fun i H' _ ⟨s5, _⟩ => SqL.of (s5 _ _ hd4)) ?_ ?_
            · intro i y H' hy ⟨s5, hd5⟩
              rw [List.getElem?_map] at hy
              cases ez : zs[i]? with
              | none => rw [ez] at hy; cases hy
              | some z1 =>
                rw [ez] at hy
                cases Option.some.inj hy
                refine ⟨rfl, test_of ⟨_, rfl, _, rfl, q, _, rfl, .inl (sq_same hq4 s5), rfl, flat_strs xs, _, rfl, ite_of (fun c => ?_) (fun c => ?_)⟩⟩
                · rw [inV_str] at c
                  have c' : z1 ∉ xs := fun hz => by
                    rw [decide_eq_true hz] at c
                    cases c
                  refine ⟨_, rfl, _, hd5, ?_, ?_, ?_⟩
                  · rw [List.length_map, sizeLine_eq]
                    have := List.length_filter_le (fun z => decide (z ∉ xs)) (zs.take i)
                    rw [List.length_take, zs_len] at this
                    omega
                  · intro b o e
                    rw [upd_ne (ne_of_none e hD2)]
                    exact s5 _ _ e
                  · rw [upd_same, List.take_succ, ez, List.filter_append, List.map_append]
                    show _ = some (HO.lst (_ ++ (([z1].filter fun z => decide (z ∉ xs)).map V.str)))
                    rw [List.filter_cons_of_pos (by simpa using c')]
                    rfl
                · rw [inV_str] at c
                  have c' : z1 ∈ xs := by
                    by_cases hz : z1 ∈ xs
                    · exact hz
                    · rw [decide_eq_false hz] at c
                      cases c
                  refine ⟨s5, ?_⟩
                  rw [List.take_succ, ez, List.filter_append]
                  show _ = some (HO.lst ((_ ++ ([z1].filter fun z => decide (z ∉ xs))).map V.str))
                  rw [List.filter_cons_of_neg (by simpa using c')]
                  rw [List.filter_nil, List.append_nil]
                  exact hd5
            · intro H5 ⟨s5, hd5⟩
              have e26' : zs.take (zs.map V.str).length = zs := by
                rw [List.length_map]
                exact List.take_length
              rw [e26'] at hd5
              obtain ⟨z1, hz1, hx1⟩ := one_not_in zs xs zs_nodup (by rw [zs_len]; omega)
              have hm : z1 ∈ zs.filter fun z => decide (z ∉ xs) := List.mem_filter.mpr ⟨hz1, by simpa using hx1⟩
              have hl : (0 : Int) < (((zs.filter fun z => decide (z ∉ xs)).map V.str).length : Int) := by
                have := List.length_pos_of_mem hm
                rw [List.length_map]
                omega
              obtain ⟨v, hv, mv⟩ := at_in (Int.le_refl 0) hl
              obtain ⟨z2, hz2, rfl⟩ := List.mem_map.mp mv
              obtain ⟨hz3, hz4⟩ := List.mem_filter.mp hz2
              refine ⟨D2, _, 0, _, rfl, rfl, SqL.of hd5, hv, k z2 H5 (zs_drawn z2 hz3) (by simpa using hz4) ?_ ?_⟩
              · obtain ⟨g, sd, cc, e, z⟩ := hp3
                exact ⟨g, sd, cc, s5 _ _ (s4 _ _ e), z⟩
              · exact kk3.trans (Keep.of_same (s4.trans s5))
      refine ifs_of ⟨_, rfl, 3, (m : Int), rfl, rfl, decide ((3 : Int) < m), rfl, ite_of (fun h3 => ⟨(m : Int), 8, rfl, rfl, _, rfl, ite_of (fun h8 => ?_) (fun h8 => ?_)⟩) (fun h3 => ⟨false, rfl, iteF ?_⟩)⟩
      · refine ⟨_, rfl, 1, rfl, z, rfl, (by rw [lz, sizeLine_eq]; omega), _, _, rfl, rfl, ?_, (by show 7 ≤ sizeLine; decide), fun a3 ha3 => ?_⟩
        · have := cutS_length z (some 1) none
          rw [sizeLine_eq]
          show 1 + _ ≤ _
          omega
        · obtain ⟨po2, hpo2⟩ := hp2.there
          have na3 : a3 ≠ p := fun e => by rw [e, hpo2] at ha3; cases ha3
          refine draw_of rfl (hp9.new ha3) (by omega) (by decide) (by decide +kernel) fun j3 H3 j30 j31 hp3 k3 => ?_
          obtain ⟨v3, hv3, mv3⟩ := at_in (xs := [V.str "old", .str "new", .str "do", .str "add", .str "set", .str "refuse", .str (("q" : Str) ++ cutS z (some 1) none)]) j30 j31
          refine ⟨a3, _, j3, v3, rfl, rfl, SqL.of (k3 _ _ na3 upd_same), hv3, ?_⟩
          have hz : ∃ z' : Str, v3 = .str z' ∧ drawn z' := by
            simp only [List.mem_cons, List.not_mem_nil, or_false] at mv3
            rcases mv3 with h | h | h | h | h | h | h <;> subst h
            · exact ⟨_, rfl, by decide +kernel, .inr (.inr (.inl (by decide +kernel)))⟩
            · exact ⟨_, rfl, by decide +kernel, .inr (.inr (.inl (by decide +kernel)))⟩
            · exact ⟨_, rfl, by decide +kernel, .inr (.inr (.inl (by decide +kernel)))⟩
            · exact ⟨_, rfl, by decide +kernel, .inr (.inr (.inl (by decide +kernel)))⟩
            · exact ⟨_, rfl, by decide +kernel, .inr (.inr (.inl (by decide +kernel)))⟩
            · exact ⟨_, rfl, by decide +kernel, .inr (.inr (.inl (by decide +kernel)))⟩
            · exact ⟨_, rfl, drawn_q nz (by omega)⟩
          obtain ⟨z', rfl, nz'⟩ := hz
          exact rest z' H3 nz' hp3 (kk2.trans ((Keep.new ha3).trans k3))
      · have := of_decide_eq_false h8
        exact rest z H2 ⟨nz, .inr (.inl (by omega))⟩ (hp9.mono (by omega)) kk2
      · have := of_decide_eq_false h3
        exact rest z H2 ⟨nz, .inl (by omega)⟩ (hp9.mono (by omega)) kk2
end
end Lw
/-! ## NamC -/
set_option Elab.async false
set_option linter.all false
set_option maxRecDepth 100000
set_option maxHeartbeats 8000000
namespace Lw
open PySem PySem.Spec PyProof.Rows L2 Sl
section
variable {P : Program} {w : World} {K : PySem.W.Frag} {mg : Str → Option Value} {base : Heap} {f : Addr} {fd : FuncData}
def sp_names (K : PySem.W.Frag) : Sp := fun vs H Q _ => ∃ (p : Addr) (m n : Nat), vs = [.ref p, .int (m : Int)] ∧ SrcAt H p n ∧ n ≤ 98000 ∧ m ≤ 20 ∧
  ∀ (q : Addr) (xs : List Str) (H' : Hp), xs.length = m → xs.Nodup → (∀ z ∈ xs, drawn z) → H q = none → H' q = some (.lst (xs.map V.str)) → SrcAt H' p (n + 10 * m) → Keep p H H' → Q (.ref q) H'
theorem ok_names (F : FnP K "_law_names" s_l_names [] f fd) (D : Cal P w K mg base 2 "_law_name" [] (sp_name K)) (mR : mg "range" = none) : FnOk P w K mg base CX0 3 f fd ["_law_source_here", "_law_many"] (sp_names K) := by
  refine F.ok sc_l_names (fun vs H Q E h => ?_) (fun cdv A outer s H vs Q E hr h => ?_)
  · obtain ⟨p, m, n, rfl, _⟩ := h
    rfl
  · obtain ⟨p, m, n, rfl, hp, hn, hm, k⟩ := h
    have nd := sc_l_names.nd
    refine ⟨_, PSs.nox (pss_cons (ps_set (i := 2) nd rfl (.inl rfl) (pe_lst pa_nil))
      (pss_cons (ps_for PassesOwn.never rfl (pi_range1 (by rfl) mR (pa_cons (pv 1) pa_nil)) (pg_name (i := 3) nd rfl (Or.inl rfl))
          (pss_one (ps_expr (pe_bm PySem.F.plainAttrs_list PySem.F.slot_list_append PySem.F.type_list_append mt_append (pv 2) (pa_cons (pe_cal D hr (pa_cons (pv 0) (pa_cons (pv 2) pa_nil))) pa_nil)))))
      (pss_one (ps_ret (pv 2))))), ?_⟩
    show tSeq (tAsg (tLst tNil) (gName 2)) _ _ [some (V.ref p), some (V.int (m : Int)), none, none] H
    refine asg_of ⟨Nat.zero_le _, fun q hq => ?_⟩
    obtain ⟨po, hpo⟩ := hp.there
    have nq : q ≠ p := fun e => by rw [e, hpo] at hq; cases hq
    show tSeq (tFor (iRng1 (tCons (tVar 1) tNil)) (gName 3) _) _ _ [some (V.ref p), some (V.int (m : Int)), some (V.ref q), none] _
    refine ⟨_, rfl, (m : Int), rfl, by omega, by omega, ?_⟩
    refine for_range (lo := 0) (n := m) (fun i σ H' => ∃ (y : Option V) (xs : List Str), σ = [some (V.ref p), some (V.int (m : Int)), some (V.ref q), y] ∧ xs.length = i ∧ xs.Nodup ∧ (∀ z ∈ xs, drawn z) ∧ H' q = some (.lst (xs.map V.str)) ∧ SrcAt H' p (n + 10 * i) ∧ Keep p H H')
      ⟨none, [], rfl, rfl, List.nodup_nil, fun _ h => absurd h List.not_mem_nil, upd_same, hp.new hq, Keep.new hq⟩ ?_ ?_
    · intro i σ H1 hi ⟨y, xs, e, lx, ndx, nx, hq1, hp1, k1⟩
      subst e
      refine ⟨_, rfl, .inl ⟨rfl, _, SqL.of hq1⟩, ?_⟩
      refine ⟨_, rfl, _, rfl, p, q, xs, n + 10 * i, rfl, hp1, by omega, SqL.of hq1, nq, by omega, fun z H2 nz hz hp2 k2 => ?_⟩
      refine ⟨q, _, _, rfl, rfl, k2 _ _ nq hq1, ?_, ?_⟩
      · rw [List.length_map, sizeLine_eq]
        omega
      · refine ⟨_, xs ++ [z], rfl, ?_, ?_, ?_, ?_, ?_, ?_⟩
        · rw [List.length_append, lx]
          rfl
        · refine List.nodup_append.mpr ⟨ndx, by simp, ?_⟩
          intro a ha b hb
          rw [List.mem_singleton.mp hb]
          exact fun e => hz (e ▸ ha)
        · intro a ha
          rcases List.mem_append.mp ha with h1 | h1
          · exact nx a h1
          · rw [List.mem_singleton.mp h1]
            exact nz
        · rw [upd_same, List.map_append]
          rfl
        · obtain ⟨g, sd, cc, e, z1, z2, z3, z4⟩ := hp2
          exact ⟨g, sd, cc, by rw [upd_ne nq.symm]; exact e, z1, z2, z3, by omega⟩
        · intro b o nb e
          have nbq : b ≠ q := fun e2 => by rw [e2, hq] at e; cases e
          rw [upd_ne nbq]
          exact k2 _ _ nb (k1 _ _ nb e)
    · intro σ H1 ⟨y, xs, e, lx, ndx, nx, hq1, hp1, k1⟩
      subst e
      exact ⟨_, rfl, k q xs H1 lx ndx nx hq hq1 hp1 k1⟩
end
end Lw
/-! ## SlMerge -/
set_option Elab.async false
set_option linter.all false
set_option maxRecDepth 100000
set_option maxHeartbeats 4000000
/-! {**a, **b} -/
namespace Sl
open PySem PySem.Spec PyProof.Rows L2
section
variable {prog : Program} {w : World} {κ : Type} [DecidableEq κ] {knd : KeyKind prog w κ} {A : Around} {E : Value → Shared → Prop} {s : Shared}
theorem dictPut_pairs {d : Addr} {kvs : List (κ × Value)} {k : κ} {key v : Value} {Q : Unit → Shared → Prop} (hkey : knd.is k key = true) (hm : s.heap.DictOf knd d kvs)
    (hQ : ∀ h', h'.DictOf knd d (stored kvs k v) → Heap.SameBut d s.heap h' → Q () { s with heap := h' }) (hsz : kvs.length ≤ sizeLine) : wpAny (model prog w) A (dictPut d (knd.hash k) key v) Q E s := by
  obtain ⟨o, es, ep, ho, hc, hd, hk, hp, hn⟩ := hm
  have hes : es.size ≤ sizeLine := by
    have e1 := hp.length
    have e2 : es.toList.length = es.size := by simp
    omega
  unfold dictPut
  refine wpAny_bind (wpAny_dictFind_of hkey ho hd hk ?_)
  have hidx : (es.findIdx? fun e => knd.is k e.key) = kvs.findIdx? fun kv => decide (kv.1 = k) := by
    rw [← hp.findIdx k]; obtain ⟨l⟩ := es; simp
  cases hi : es.findIdx? fun e => knd.is k e.key with
  | some i =>
    refine wpAny_updateDict ho hd (hQ _ ⟨_, _, ep, Heap.get?_update_self _ ho (Obj.isFreed_of_dict (Obj.data_mapDict hd _)), hc.mapDict _, Obj.data_mapDict hd _, hk.modify _ _, ?_, ?_⟩ (Heap.SameBut.update ..))
    · rw [stored, if_pos (any_of_findIdx_some (hidx ▸ hi))]
      have hl : (es.toList.findIdx? fun e => knd.is k e.key) = some i := by rw [← hi]; obtain ⟨l⟩ := es; simp
      have := hp.modify hn hl v
      obtain ⟨l⟩ := es
      simpa using this
    · rw [stored, if_pos (any_of_findIdx_some (hidx ▸ hi)), keys_map_store]; exact hn
  | none =>
    have hnot : k ∉ kvs.map (·.1) := not_mem_of_findIdx_none (hidx ▸ hi)
    have hany : ¬ (kvs.any fun kv => decide (kv.1 = k)) = true := by
      rw [List.any_eq_true]; rintro ⟨kv, hkv, he⟩
      exact hnot (List.mem_map.mpr ⟨kv, hkv, of_decide_eq_true he⟩)
    refine wpAny_updateDictKeys (hz := hes) ho hd (hQ _ ⟨_, _, ep + 1, Heap.get?_update_self _ ho (Obj.isFreed_of_dict (Obj.data_mapDictKeys hd _)),
      hc.mapDictKeys _, Obj.data_mapDictKeys hd _, hk.push hkey _, ?_, ?_⟩ (Heap.SameBut.update ..))
    · rw [stored, if_neg hany]
      have := hp.append hkey (knd.hash k) v
      obtain ⟨l⟩ := es
      simpa using this
    · rw [stored, if_neg hany, List.map_append, List.nodup_append]
      refine ⟨hn, by simp, ?_⟩
      intro a ha b hb
      simp only [List.map_cons, List.map_nil, List.mem_singleton] at hb
      subst hb
      exact fun e => hnot (e ▸ ha)
theorem mergeMapping_pairs {d o : Addr} {kvs more : List (κ × Value)} {Q : Unit → Shared → Prop} (hnr : ∀ k a, knd.is k (.ref a) = false) (hdo : d ≠ o) (hoS : (o == sysModules) = false) (hd : s.heap.DictOf knd d kvs) (ho : s.heap.DictOf knd o more)
    (hQ : ∀ h', h'.DictOf knd d (merged kvs more) → h'.DictOf knd o more → Heap.SameBut d s.heap h' → Q () { s with heap := h' }) (hsz : kvs.length + more.length ≤ sizeLine) :
    wpAny (model prog w) A (mergeMapping d (.ref o) false) Q E s := by
  obtain ⟨od, esd, epd, hod, hcd, hdd, hkd, hpd, hnd⟩ := id hd
  obtain ⟨oo, eso, epo, hoo, hco, hdo', hko, hpo, hno⟩ := id ho
  have hT : s.TypeIs (.ref o) "dict" := ⟨oo, hoo, hco.1⟩
  have hlen : more.length = eso.size := by rw [← hpo.length]; simp
  unfold mergeMapping
  refine wpAny_bind (wpAny_isInstance hT (b := true) (by rw [isSubtype_type]; kernel_rfl) ?_)
  rw [if_pos rfl]
  refine wpAny_bind (wpAny_specialOf hT F.slot_dict_iter.lookup ?_)
  refine wpAny_bind (wpAny_pure ?_)
  rw [show ((some (Value.builtin "dict.__iter__")) == some (Value.builtin "dict.__iter__")) = true by decide +kernel]
  dsimp only
  rw [if_neg (by rw [hoS]; exact Bool.false_ne_true)]
  refine wpAny_bind (wpAny_dictEntries hod hdd ?_)
  have loop : wpAny (model prog w) A (do
      let l ← dictEntries o
      let size : Nat := l.size
      let epoch ← dictEpoch o
      forIn (List.range size) PUnit.unit fun i (_ : PUnit) => (do
          let l' ← dictEntries o
          match l'[i]? with
            | some e => do
              holding [e.key, e.val] (dictPut d e.hash e.key e.val)
              let ep' ← dictEpoch o
              if (ep' != epoch) = true then do
                  (unsupported "dict.changed-during-merge" : Sem PUnit)
                  pure (ForInStep.yield PUnit.unit)
                else pure (ForInStep.yield PUnit.unit)
            | _ => do
              (unsupported "dict.changed-during-merge" : Sem PUnit)
              pure (ForInStep.yield PUnit.unit) : Sem (ForInStep PUnit))
      pure ()) Q E s := by
    refine wpAny_bind (wpAny_dictEntries hoo hdo' ?_)
    refine wpAny_bind (wpAny_dictEpoch hoo hdo' ?_)
    refine wpAny_bind ?_
    rw [List.range_eq_range']
    refine wpAny_forIn_list _
      (fun rest _ s' => ∃ h' i, s' = { s with heap := h' } ∧ rest = List.range' i (eso.size - i) ∧ i ≤ eso.size ∧ h'.DictOf knd d (merged kvs (more.take i)) ∧ h'.get? o = some oo ∧ Heap.SameBut d s.heap h')
      _ ?_ ?_ _ _ ⟨s.heap, 0, rfl, by simp, Nat.zero_le _, by simpa [merged] using hd, hoo, Heap.SameBut.refl _ _⟩
    · rintro x rest b s' ⟨h', i, rfl, hr, hi, hd', hoo', hs'⟩
      have hlt : i < eso.size := by
        rcases Nat.lt_or_ge i eso.size with h | h
        · exact h
        · rw [Nat.sub_eq_zero_of_le h] at hr; simp at hr
      obtain ⟨rfl, hrest⟩ : x = i ∧ rest = List.range' (i + 1) (eso.size - (i + 1)) := by
        have e : eso.size - i = (eso.size - (i + 1)) + 1 := by omega
        rw [e, List.range'_succ] at hr
        injection hr with h1 h2
        exact ⟨h1, h2⟩
      refine wpAny_bind (wpAny_dictEntries hoo' hdo' ?_)
      rw [Array.getElem?_eq_getElem hlt]
      obtain ⟨kv, hkv⟩ : ∃ kv, more[x]? = some kv := ⟨more[x]'(by rw [hlen]; exact hlt), List.getElem?_eq_getElem _⟩
      obtain ⟨k, v⟩ := kv
      obtain ⟨hkey, hval⟩ := hpo.get? (e := eso[x]) (by simp [hlt]) hkv
      obtain ⟨k', hkey', hhash⟩ := hko eso[x] (Array.getElem_mem hlt)
      obtain rfl : k' = k := knd.inj _ _ _ hkey' hkey
      show wpAny _ _ (holding [eso[x].key, eso[x].val] (dictPut d eso[x].hash eso[x].key eso[x].val) >>= _) _ _ _
      rw [hhash, hval]
      have hmx : (merged kvs (more.take x)).length ≤ sizeLine := by
        have e1 := merged_length_le kvs (more.take x)
        have e2 : (more.take x).length ≤ more.length := by rw [List.length_take]; omega
        omega
      refine wpAny_bind (wpAny_holding (dictPut_pairs (hsz := hmx) hkey hd' fun h'' hd'' hs'' => ?_))
      have hoo'' : h''.get? o = some oo := (hs''.2 o (Ne.symm hdo)).trans hoo'
      refine wpAny_bind (wpAny_dictEpoch hoo'' hdo' ?_)
      rw [if_neg (by simp)]
      exact wpAny_pure ⟨h'', x + 1, rfl, hrest, hlt, by rw [merged_take_succ kvs more x (k', v) hkv]; exact hd'', hoo'', hs'.trans hs''⟩
    · rintro b s' ⟨h', i, rfl, hr, hi, hd', hoo', hs'⟩
      have hin : i = eso.size := by
        rcases Nat.lt_or_ge i eso.size with h | h
        · have e : eso.size - i = (eso.size - (i + 1)) + 1 := by omega
          rw [e, List.range'_succ] at hr; exact nomatch hr
        · exact Nat.le_antisymm hi h
      refine wpAny_pure (hQ h' ?_ ⟨oo, eso, epo, hoo', hco, hdo', hko, hpo, hno⟩ hs')
      rw [hin, ← hlen, List.take_length] at hd'; exact hd'
  split
  · refine wpAny_bind (wpAny_dictEntries hoo hdo' ?_)
    refine wpAny_bind (MeetsSeq2.wpAny_forIn_array _ (fun rest _ s' => s' = s ∧ ∀ e ∈ rest, e ∈ eso) _ ?_ ?_ _ _ ⟨rfl, fun e he => by simpa using he⟩)
    · rintro e rest b s' ⟨rfl, hm⟩
      obtain ⟨k', hkey', _⟩ := hko e (hm e List.mem_cons_self)
      cases hk : e.key with
      | ref a =>
        rw [hk, hnr] at hkey'
        cases hkey'
      | _ => exact wpAny_pure ⟨rfl, fun e he => hm e (List.mem_cons_of_mem _ he)⟩
    · rintro b s' ⟨rfl, _⟩
      exact loop
  · exact loop
end
theorem mix_noref (prog : Program) (w : World) (k : Key) (a : Addr) : (mixKind prog w).is k (.ref a) = false := by
  cases k <;> rfl
def tTwo (t1 t2 : TE) : TE := fun σ H Q => ∀ p, H p = none → t1 σ (upd H p (.dK [])) fun x H1 => ∃ (a : Addr) (ks : List (Key × V)), x = .ref a ∧ a ≠ p ∧ Rd H1 a (.dK ks) ∧ H1 p = some (.dK []) ∧ ks.length ≤ 10000 ∧
  t2 σ (upd H1 p (.dK (mergeK [] ks))) fun y H2 => ∃ (b : Addr) (ls : List (Key × V)), y = .ref b ∧ b ≠ p ∧ Rd H2 b (.dK ls) ∧ H2 p = some (.dK (mergeK [] ks)) ∧ ls.length ≤ 10000 ∧ Q (.ref p) (upd H2 p (.dK (mergeK (mergeK [] ks) ls)))
section
variable {X : Cx} {e1 e2 : Expr} {t1 t2 : TE} {pos : Pos}
theorem merge_step {E : Value → Shared → Prop} {pins : List (Addr × Obj)} {σ : L2.St} {H : Hp} {s : Shared} {p a : Addr} {kvs ks : List (Key × V)} {Q : Unit → Shared → Prop} (I : Inv X pins σ H s) (hp : H p = some (.dK kvs)) (ne : a ≠ p) (ha : Rd H a (.dK ks)) (h1 : kvs.length ≤ 20000) (h2 : ks.length ≤ 10000)
    (q : ∀ s', Inv X pins σ (upd H p (.dK (mergeK kvs ks))) s' → Q () s') : wpAny (model X.prog X.w) X.A (mergeMapping p (.ref a) false) Q E s := by
  obtain ⟨z, hd, vs, rel, dd⟩ := dk_of I.hok hp
  obtain ⟨z2, hd2, ws, rel2, dd2⟩ := dk_rd I.hok ha
  have l1 := rel.length
  have l2 := rel2.length
  have hl := length_mergeK ks kvs
  refine mergeMapping_pairs (mix_noref X.prog X.w) ne.symm hd2 dd dd2 (fun h' dd' _ hs => q _ ?_) (by rw [← l1, ← l2, sizeLine_eq]; omega)
  have he : ∃ q, h'.get? p = some q := let ⟨q, _, _, hq, _⟩ := dd'; ⟨q, hq⟩
  exact d_write I (by rw [hp]; exact True.intro) hs he (dk_new (by rw [sizeLine_eq]; omega) hd (KV.merge rel2 rel) dd')
theorem pe_two (h1 : PE X e1 t1) (h2 : PE X e2 t2) : PE X (.Dict [none, none] [e1, e2] pos) (tTwo t1 t2) := by
  refine ⟨fun pins s σ H Q I q => ?_⟩
  have hn := I.hok.fresh (Nat.le_refl s.heap.objs.size)
  have I1 := I.laid (a := s.heap.objs.size) (o := .dK []) (h' := s.heap.push { cls := .type "dict", data := .dict #[] }) (t' := s.toks) (fun _ _ q => Heap.get?_push_of_some _ q) (Nat.le_refl _) (dk_empty s.heap I.big)
  rw [arm_eval_Dict]
  refine wpAny_bind (wpAny_standAt ?_)
  show wpAny _ _ (dictDisplay [(none, do let x ← eval e1 X.env; standAt pos; pure x), (none, do let x ← eval e2 X.env; standAt pos; pure x)]) _ _ s
  unfold dictDisplay
  simp only [List.forIn_cons, List.forIn_nil, List.isEmpty_nil, if_true, pure_bind, bind_assoc]
  refine wpAny_bind (wpAny_alloc ?_)
  refine wpAny_bind (wpAny_holding (wpAny_bind (thn (h1.run pins _ σ _ _ I1 (q _ hn)) fun u s1 ⟨x, H1, I2, r1, a, ks, ex, ne, ha, hp, hk, q1⟩ => wpAny_bind (wpAny_standAt (wpAny_pure ?_)))))
  subst ex
  obtain rfl : u = Value.ref a := r1
  refine wpAny_bind (wpAny_onRaise (wpAny_tryCatch (wpAny_onRaise (wpAny_holding (merge_step I2 hp ne ha (by simp) hk fun s2 I3 => ?_)))))
  have l1 := length_mergeK ks []
  refine wpAny_bind (wpAny_holding (wpAny_bind (thn (h2.run pins _ σ _ _ I3 q1) fun u s3 ⟨y, H2, I4, r2, b, ls, ey, ne2, hb, hp2, hl, q2⟩ => wpAny_bind (wpAny_standAt (wpAny_pure ?_)))))
  subst ey
  obtain rfl : u = Value.ref b := r2
  refine wpAny_bind (wpAny_onRaise (wpAny_tryCatch (wpAny_onRaise (wpAny_holding (merge_step I4 hp2 ne2 hb (by simp at l1; omega) hl fun s4 I5 => ?_)))))
  exact wpAny_pure ⟨.ref _, _, I5, rfl, q2⟩
end
end Sl
/-! ## SlWalk -/
set_option Elab.async false
set_option linter.all false
set_option maxRecDepth 100000
set_option maxHeartbeats 4000000
namespace Sl
open PySem PySem.Spec PyProof.Rows L2
/-! ### a walk over a dict that was just made: it is locked by the walk, for good -/
def iKeysN (td : TE) : TI := fun σ H R => td σ H fun x H1 => ∃ (d : Addr) (kvs : List (Key × V)), x = .ref d ∧ H1 d = some (.dK kvs) ∧ ∀ od, R (Itk d od kvs) (upd H1 d (.frz od (.dK kvs)))
section
variable {X : Cx} {tg e : Expr} {td : TE} {p pos apos mpos : Pos}
theorem pi_keysN (he : PE X e td) : PI X tg e (iKeysN td) := by
  refine ⟨fun pins s σ H R I h => ?_⟩
  refine thn (he.run pins s σ H _ I h) fun u s1 ⟨x, H1, I1, rx, d, kvs, ex, hd, q⟩ => ?_
  subst ex
  obtain rfl : u = Value.ref d := rx
  obtain ⟨od, I2⟩ := I1.lock hd True.intro
  obtain ⟨hs, hgd, hx, es, ep, vs, hdt, hsz, kv, hm⟩ := I2.frzK upd_same
  refine iter_keys hs hgd hx hdt (pi_one (tk := s1.toks) I2 _ (turn_keys _ hdt) ⟨_, Heap.get?_push_size _ rfl, rfl, ?_⟩ (q od))
  rw [hsz] <;> rfl
/-! ### sum(d.values()) -/
theorem preSum_getD (is : List Int) : ∀ n : Nat, n ≤ is.length → preSum (fun i => is.getD i 0) n = (is.take n).sum
  | 0, _ => rfl
  | n + 1, h => by
    show preSum (fun i => is.getD i 0) n + is.getD n 0 = _
    rw [preSum_getD is n (by omega), List.take_succ_eq_append_getElem (by omega), List.sum_append]
    rw [List.getD_eq_getElem?_getD, List.getElem?_eq_getElem (by omega)]
    simp
def tSumVals (td : TE) : TE := fun σ H Q => td σ H fun x H1 => ∃ (a : Addr) (kvs : List (Key × V)) (is : List Int), x = V.ref a ∧ H1 a = some (.dK kvs) ∧ kvs.map (·.2) = is.map V.int ∧ Q (.int is.sum) H1
theorem pe_sumVals (hc : X.calm = true) (hg : Gl X "sum") (hm : X.mg "sum" = none) (hd : PE X e td) (hbase : attributeBase e "values" X.env (eval e X.env) = eval e X.env := by rfl) (hline : (apos.endLine == mpos.line) = true := by rfl)
    (hse : starEach [Expr.Call (.Attribute e "values" apos) [] [] mpos] X.env = [(false, eval (Expr.Call (.Attribute e "values" apos) [] [] mpos) X.env)] := by rfl) :
    PE X (.Call (.Name "sum" p) [.Call (.Attribute e "values" apos) [] [] mpos] [] pos) (tSumVals td) := by
  refine ⟨fun pins s σ H Q I h => ?_⟩
  refine wpAny_Call_Name_kw (ld_blt I hg hm (u := .builtin "sum") (by first | rfl | decide +kernel) ?_ (by first | decide +kernel | decide) (by first | decide +kernel | decide))
  rw [hse]
  refine PySem.callWith_builtin1 (wpAny_Call_method0_late hbase hline (thn (hd.run pins s σ H _ I h) fun v s1 ⟨x, H1, I1, r1, a, kvs, is, ex, ha, hv, q⟩ => ?_))
  subst ex
  obtain rfl : v = Value.ref a := r1
  obtain ⟨_, hsys, vs, rel, dof⟩ := dk_of I1.hok ha
  obtain ⟨ep, dat⟩ := dof.dictAt
  have dat' := dat
  obtain ⟨ob, es, ho, ex, hdat, hko, hpr, hnd⟩ := dat'
  refine ⟨"dict", "dict.values", F.plainAttrs_dict, F.slot_dict_values, F.type_dict_values, ⟨ob, ho, ex.1⟩, fun b e => ?_, Calls.callWith_builtin rfl (PySem.evalArgs_none ?_)⟩
  · cases e
    exact ⟨ob, ho, ex.2.1⟩
  refine call_meetsIn F.slot_dict_values ⟨ob, ho, ex.1⟩ F.entry_dict_values (F.args_dict_values_1 _) (meets_dict_values (mixKind X.prog X.w) a hsys) ⟨⟨vs, dof⟩, ?_⟩
  have k1 : ∀ b u, s1.heap.get? b = some u → (s1.heap.push { cls := .type "dict_values", data := .fields #[.ref a] }).get? b = some u := fun b u e => Heap.get?_push_of_some _ e
  have dat1 : (s1.heap.push { cls := .type "dict_values", data := .fields #[.ref a] }).DictAt (mixKind X.prog X.w) a vs ep := dat.keep k1
  have hlv : vs.length = is.length := by
    have e1 := congrArg List.length hv
    rw [List.length_map, List.length_map] at e1
    rw [← e1]
    exact (KV.length rel).symm
  have hval : ∀ (i : Nat) (v : Value), (∃ k, vs[i]? = some (k, v)) → ∃ t, v = Value.int (is.getD i 0) t := fun i v ⟨k, hk⟩ => by
    obtain ⟨x, h1, h2⟩ := KV.at' rel hk
    have e1 : (kvs.map (·.2))[i]? = some x := by rw [List.getElem?_map, h1] <;> rfl
    rw [hv, List.getElem?_map] at e1
    obtain ⟨j, hj, e2⟩ := Option.map_eq_some_iff.mp e1
    subst e2
    obtain ⟨t, e3⟩ := h2
    refine ⟨t, ?_⟩
    rw [e3, List.getD_eq_getElem?_getD, hj] <;> rfl
  refine call_sum_walkG (wpAny_pyIter_values (v := s1.heap.objs.size) (d := a) ⟨_, Heap.get?_push_size _ rfl, rfl, rfl⟩ dat1 ?_)
  have hlt : a < s1.heap.objs.size := Heap.lt_size ho
  have hsz : (s1.heap.push { cls := .type "dict_values", data := .fields #[.ref a] }).objs.size = s1.heap.objs.size + 1 := Heap.size_push _ _
  refine ⟨_, _, _, _, _, _, (fun i => is.getD i 0), rfl, Walks.dictValues (knd := mixKind X.prog X.w) (A := X.A.in1) (I.ok.hd hc) (s1.heap.push { cls := .type "dict_values", data := .fields #[.ref a] }).objs.size a (by rw [hsz]; exact Nat.ne_of_lt (Nat.lt_succ_of_lt hlt)) vs ep,
    ⟨⟨_, Heap.get?_push_size _ rfl, rfl, rfl⟩, dat1.keep fun b u e => Heap.get?_push_of_some _ e⟩, fun b hb => ?_, hval, fun h' tk t' hk => ?_⟩
  · show b < ((s1.heap.push _).push _).objs.size
    rw [Heap.size_push, Heap.size_push]
    rw [hsz] at hb
    rcases List.mem_cons.mp hb with e | hb
    · rw [e]
      exact Nat.lt_succ_self _
    · have e : b = a := List.mem_singleton.mp hb
      rw [e]
      exact Nat.lt_succ_of_lt (Nat.lt_succ_of_lt hlt)
  · rw [hlv, preSum_getD is _ (Nat.le_refl _), List.take_length]
    refine ⟨.int _, H1, I1.kept (t' := tk) fun b u e => hk b u (fun hmem => ?_) (Heap.get?_push_of_some _ (k1 b u e)), ⟨t', rfl⟩, q⟩
    have e1 : b = (s1.heap.push { cls := .type "dict_values", data := .fields #[.ref a] }).objs.size := List.mem_singleton.mp hmem
    have e2 := Heap.lt_size e
    rw [hsz] at e1
    rw [e1] at e2
    exact absurd e2 (Nat.not_lt.mpr (Nat.le_succ _))
end
end Sl
/-! ## SlDic -/
set_option Elab.async false
set_option linter.all false
set_option maxRecDepth 100000
set_option maxHeartbeats 4000000
namespace Sl
open PySem PySem.Spec PyProof.Rows L2
/-! ### d == e, d != e, flat values, both answers -/
def dicAll (ks ls : List (Key × V)) : Bool := ks.all fun p => match valV ls p.1 with
  | some y => eqV p.2 y
  | none => false
def dicEq (ks ls : List (Key × V)) : Bool := (ks.length == ls.length) && dicAll ks ls
def flatD (ks : List (Key × V)) : Bool := ks.all fun p => flatV p.2
def rEqDic : R2 := fun x y H Q => ∃ (a b : Addr) (ks ls : List (Key × V)), x = .ref a ∧ y = .ref b ∧ Rd H a (.dK ks) ∧ Rd H b (.dK ls) ∧ flatD ks = true ∧ flatD ls = true ∧ Q (.bl (dicEq ks ls)) H
def rNeDic : R2 := fun x y H Q => ∃ (a b : Addr) (ks ls : List (Key × V)), x = .ref a ∧ y = .ref b ∧ Rd H a (.dK ks) ∧ Rd H b (.dK ls) ∧ flatD ks = true ∧ flatD ls = true ∧ Q (.bl (!dicEq ks ls)) H
theorem valV_mem {ls : List (Key × V)} {k : Key} {y : V} (h : valV ls k = some y) : ∃ p ∈ ls, p.2 = y := by
  unfold valV at h
  cases e : ls.find? fun kv => decide (kv.1 = k) with
  | none => rw [e] at h; cases h
  | some p =>
    rw [e] at h
    exact ⟨p, List.mem_of_find?_eq_some e, Option.some.inj h⟩
theorem hits_of {A : Around} {s : Shared} {ls : List (Key × V)} {vb : List (Key × Value)} (rb : KV ls vb) (fl : flatD ls = true) : ∀ {ks : List (Key × V)} {va : List (Key × Value)}, KV ks va → flatD ks = true → PySem.W.KeqHits A s vb va (dicAll ks ls)
  | _, _, .nil, _ => .nil
  | p :: ks, q :: va, .cons h t, f => by
    obtain ⟨h1, h2⟩ := h
    have f1 : flatV p.2 = true ∧ flatD ks = true := Bool.and_eq_true_iff.mp (show (flatV p.2 && flatD ks) = true from f)
    have ih := hits_of (A := A) (s := s) rb fl t f1.2
    have rv := KV.val rb p.1
    obtain ⟨k, v⟩ := q
    have ek : p.1 = k := h1
    subst ek
    show PySem.W.KeqHits A s vb ((p.1, v) :: va) ((match valV ls p.1 with | some y => eqV p.2 y | none => false) && dicAll ks ls)
    cases e : valV ls p.1 with
    | none =>
      rw [e] at rv
      have : valueAt vb p.1 = none := by
        cases e2 : valueAt vb p.1 with
        | none => rfl
        | some u => rw [e2] at rv; exact rv.elim
      exact .miss this
    | some y =>
      rw [e] at rv
      obtain ⟨u, e2, ru⟩ := RelO.some_of rv
      obtain ⟨pp, hp, hy⟩ := valV_mem e
      have fy : flatV y = true := by rw [← hy]; exact List.all_eq_true.mp fl pp hp
      exact .hit e2 (eqAt_V h2 ru f1.1 fy) ih
section
variable {X : Cx}
theorem op_eqDic (hu : X.A.units < cLine) : OpR X (compareOp .Eq) rEqDic := by
  intro pins s σ H x y v u Q I rx ry h
  obtain ⟨a, b, ks, ls, rfl, rfl, ea, eb, fa, fb, q⟩ := h
  obtain rfl : v = Value.ref a := rx
  obtain rfl : u = Value.ref b := ry
  obtain ⟨_, ya, va, ra, da⟩ := dk_rd I.hok ea
  obtain ⟨_, yb, vb, rb, db⟩ := dk_rd I.hok eb
  refine PySem.W.keq_eq (knd := mixKind X.prog X.w) (r := dicAll ks ls) ya yb da db hu (fun _ => hits_of rb fb ra fa) (fin_bl I q ?_)
  rw [← KV.length ra, ← KV.length rb]
  rfl
theorem op_neDic (hu : X.A.units < cLine) : OpR X (compareOp .NotEq) rNeDic := by
  intro pins s σ H x y v u Q I rx ry h
  obtain ⟨a, b, ks, ls, rfl, rfl, ea, eb, fa, fb, q⟩ := h
  obtain rfl : v = Value.ref a := rx
  obtain rfl : u = Value.ref b := ry
  obtain ⟨_, ya, va, ra, da⟩ := dk_rd I.hok ea
  obtain ⟨_, yb, vb, rb, db⟩ := dk_rd I.hok eb
  refine PySem.W.keq_ne (knd := mixKind X.prog X.w) (r := dicAll ks ls) ya yb da db hu (fun _ => hits_of rb fb ra fa) (fin_bl I q ?_)
  rw [← KV.length ra, ← KV.length rb]
  rfl
end
end Sl
/-! ## SlDc -/
set_option Elab.async false
set_option linter.all false
set_option maxRecDepth 100000
set_option maxHeartbeats 4000000
namespace Sl
open PySem PySem.Spec PyProof.Rows L2
/-- a dict's comprehension over a walk: Pv by the turn and the heap (the new dict at D within) -/
theorem dc_it {J : It} {n : Nat} {G : Hp → Prop} {Y : Nat → Hp → V → Hp → Prop} (w : Walk J n G Y) {g : TG} {tt : TT} {tk tv : TE} {vs : List Nat} {σ : L2.St} {H1 : Hp} {D : Addr} {Qd : Hp → Prop} (Pv : Nat → Hp → Prop) (h0 : Pv 0 (upd H1 D (.dK []))) (hG : ∀ i H, i ≤ n → Pv i H → G H)
    (hs : ∀ i x H H', i < n → Pv i H → Y i H x H' → g x (wipe σ vs) H' fun σ2 H2 => wipe σ2 vs = wipe σ vs ∧ tt σ2 H2 fun b H3 =>
      if b = true then tk σ2 H3 fun y H4 => tv σ2 H4 fun z H5 => ∃ kvs k, y = kV k ∧ H5 D = some (.dK kvs) ∧ kvs.length < sizeLine ∧ Pv (i + 1) (upd H5 D (.dK (putK kvs k z))) else Pv (i + 1) H3) (hd : ∀ H, Pv n H → Qd H) :
    ∃ W : Nat → Nat → Hp → Prop, (∃ m, W 0 m (upd H1 D (.dK []))) ∧ ∀ i m H, W i m H →
      (J.stop i H ∧ Qd H) ∨ (J.go i H ∧ ∃ Nx : Hp → Prop, (∀ H', Nx H' → ∃ m', m' < m ∧ W (i + 1) m' H') ∧ ∀ x H', J.yld i H x H' → g x (wipe σ vs) H' fun σ2 H2 => wipe σ2 vs = wipe σ vs ∧ tt σ2 H2 fun b H3 =>
        if b = true then tk σ2 H3 fun y H4 => tv σ2 H4 fun z H5 => ∃ kvs k, y = kV k ∧ H5 D = some (.dK kvs) ∧ kvs.length < sizeLine ∧ Nx (upd H5 D (.dK (putK kvs k z))) else Nx H3) := by
  refine ⟨fun i m H => m = n - i ∧ i ≤ n ∧ Pv i H, ⟨n, by simp, Nat.zero_le _, h0⟩, ?_⟩
  rintro i m H ⟨rfl, hi, p⟩
  have q := hG i H hi p
  by_cases hlt : i < n
  · refine .inr ⟨w.goes i H hlt q, Pv (i + 1), fun H' p' => ⟨n - (i + 1), by omega, rfl, hlt, p'⟩, fun x H' y => hs i x H H' hlt p (w.yields i H x H' hlt q y)⟩
  · have e : i = n := by omega
    subst e
    exact .inl ⟨w.stops H q, hd H p⟩
/-- two names, told as a tuple -/
theorem pg_two {X : Cx} {i j kk : Nat} {x y : Str} {p1 p2 pos : Pos} (hc : X.calm = true) (hN : X.N.Nodup) (hi : X.N[i]? = some x) (hj : X.N[j]? = some y) (hx : Loc X.env.scope x) (hy : Loc X.env.scope y)
    (fx : X.fn x = true ∨ X.env.scope.names.lookup x = some .local := by first | exact .inl rfl | exact .inr rfl | assumption) (fy : X.fn y = true ∨ X.env.scope.names.lookup y = some .local := by first | exact .inl rfl | exact .inr rfl | assumption) :
    PG X (.Tuple [.Name x p1, .Name y p2] kk pos) (gTup X.K 2 (gCons (gName i) (gCons (gName j) gNil))) :=
  pg_tup hc (pgs_cons (pg_name hN hi hx fx) (pgs_cons (pg_name hN hj hy fy) pgs_nil))
end Sl
/-! ## DicI -/
set_option Elab.async false
set_option linter.all false
set_option maxRecDepth 100000
set_option maxHeartbeats 4000000
/-! dicts of names and whole numbers -/
namespace Sl
open PySem PySem.Spec PyProof.Rows L2
abbrev NI : Type := List (Str × Int)
def kvi (p : Str × Int) : Key × V := (.inr p.1, .int p.2)
def dI (A : NI) : HO := .dK (A.map kvi)
def ks (A : NI) : List Str := A.map (·.1)
def get? (A : NI) (x : Str) : Option Int := (A.find? fun p => decide (p.1 = x)).map (·.2)
def get0 (A : NI) (x : Str) : Int := (get? A x).getD 0
def nz (A : NI) : NI := A.filter fun p => decide (p.2 ≠ 0)
theorem valV_kvi (A : NI) (x : Str) : valV (A.map kvi) (.inr x) = (get? A x).map V.int := by
  unfold valV get?
  induction A with
  | nil => rfl
  | cons p r ih =>
    by_cases h : p.1 = x
    · have h1 : (fun kv : Key × V => decide (kv.1 = Sum.inr x)) (kvi p) = true := decide_eq_true (congrArg Sum.inr h)
      rw [List.map_cons, List.find?_cons_of_pos (p := fun kv : Key × V => decide (kv.1 = Sum.inr x)) h1, List.find?_cons_of_pos (by simpa using h)]
      rfl
    · have h1 : ¬ (fun kv : Key × V => decide (kv.1 = Sum.inr x)) (kvi p) = true := by
        intro e
        exact h (Sum.inr.inj (of_decide_eq_true e))
      rw [List.map_cons, List.find?_cons_of_neg (p := fun kv : Key × V => decide (kv.1 = Sum.inr x)) h1, List.find?_cons_of_neg (by simpa using h)]
      exact ih
theorem putK_new (A : NI) (x : Str) (i : Int) (h : x ∉ ks A) : putK (A.map kvi) (.inr x) (.int i) = (A ++ [(x, i)]).map kvi := by
  unfold putK
  have hn : ((A.map kvi).any fun kv => decide (kv.1 = Sum.inr x)) = false := by
    rw [List.any_eq_false]
    intro kv hk e
    obtain ⟨p, hp, rfl⟩ := List.mem_map.mp hk
    exact h (List.mem_map.mpr ⟨p, hp, Sum.inr.inj (of_decide_eq_true e)⟩)
  rw [hn, if_neg Bool.false_ne_true, List.map_append]
  rfl
theorem mergeK_new : ∀ (B A : NI), (ks (A ++ B)).Nodup → mergeK (A.map kvi) (B.map kvi) = (A ++ B).map kvi
  | [], A, _ => by
    rw [List.append_nil]
    rfl
  | p :: r, A, h => by
    have h1 : p.1 ∉ ks A := fun hm => by
      unfold ks at h hm
      rw [List.map_append, List.nodup_append] at h
      exact h.2.2 p.1 hm p.1 (List.mem_map.mpr ⟨p, List.mem_cons_self, rfl⟩) rfl
    show mergeK (putK (A.map kvi) (.inr p.1) (.int p.2)) (r.map kvi) = _
    rw [putK_new A p.1 p.2 h1, mergeK_new r (A ++ [(p.1, p.2)]) (by simpa using h)]
    rw [List.append_assoc]
    rfl
theorem mergeK_nil {A : NI} (h : (ks A).Nodup) : mergeK [] (A.map kvi) = A.map kvi := by
  have := mergeK_new A [] (by simpa using h)
  simpa using this
theorem flat_dI (A : NI) : flatD (A.map kvi) = true := by
  unfold flatD
  rw [List.all_map]
  exact List.all_eq_true.mpr fun _ _ => rfl
theorem keys_kvi (A : NI) : (A.map kvi).map (·.1) = (ks A).map Sum.inr := by
  unfold ks
  rw [List.map_map, List.map_map]
  rfl
theorem vals_kvi (A : NI) : (A.map kvi).map (·.2) = (A.map (·.2)).map V.int := by
  rw [List.map_map, List.map_map]
  rfl
theorem get?_mem {A : NI} {x : Str} {i : Int} (h : get? A x = some i) : (x, i) ∈ A := by
  unfold get? at h
  cases e : A.find? fun p => decide (p.1 = x) with
  | none => rw [e] at h; cases h
  | some p =>
    rw [e] at h
    have h1 := List.mem_of_find?_eq_some e
    have h2 : p.1 = x := by simpa using List.find?_some e
    have h3 : p.2 = i := Option.some.inj h
    rw [← h2, ← h3]
    exact h1
theorem get?_none {A : NI} {x : Str} : get? A x = none ↔ x ∉ ks A := by
  unfold get? ks
  rw [Option.map_eq_none_iff, List.find?_eq_none]
  constructor
  · intro h hm
    obtain ⟨p, hp, e⟩ := List.mem_map.mp hm
    exact h p hp (by simpa using e)
  · intro h p hp e
    exact h (List.mem_map.mpr ⟨p, hp, by simpa using e⟩)
theorem get?_of {A : NI} {x : Str} {i : Int} (h : (ks A).Nodup) (hm : (x, i) ∈ A) : get? A x = some i := by
  induction A with
  | nil => cases hm
  | cons p r ih =>
    have h' : p.1 ∉ ks r ∧ (ks r).Nodup := List.nodup_cons.mp h
    rcases List.mem_cons.mp hm with e | hr
    · subst e
      show ((((x, i) : Str × Int) :: r).find? fun p => decide (p.1 = x)).map (·.2) = some i
      rw [List.find?_cons_of_pos (by simp)]
      rfl
    · have ne : p.1 ≠ x := fun e => h'.1 (List.mem_map.mpr ⟨(x, i), hr, e.symm⟩)
      have := ih h'.2 hr
      unfold get? at this ⊢
      rw [List.find?_cons_of_neg (by simpa using ne)]
      exact this
theorem nz_ks {A : NI} {x : Str} (h : x ∈ ks (nz A)) : x ∈ ks A := by
  obtain ⟨p, hp, e⟩ := List.mem_map.mp h
  exact List.mem_map.mpr ⟨p, (List.mem_filter.mp hp).1, e⟩
theorem nz_nodup {A : NI} (h : (ks A).Nodup) : (ks (nz A)).Nodup := List.Nodup.sublist (List.Sublist.map _ List.filter_sublist) h
theorem get0_nz {A : NI} (h : (ks A).Nodup) (x : Str) : get0 (nz A) x = get0 A x := by
  unfold get0
  cases e : get? A x with
  | none =>
    have : get? (nz A) x = none := get?_none.mpr fun hm => (get?_none.mp e) (nz_ks hm)
    rw [this]
  | some i =>
    have hm := get?_mem e
    by_cases hi : i = 0
    · subst hi
      have : get? (nz A) x = none := by
        refine get?_none.mpr fun hn => ?_
        obtain ⟨p, hp, ep⟩ := List.mem_map.mp hn
        obtain ⟨h1, h2⟩ := List.mem_filter.mp hp
        have e3 := get?_of h (show (x, p.2) ∈ A by rw [← ep]; exact h1)
        rw [e] at e3
        have : (0 : Int) = p.2 := Option.some.inj e3
        simp [← this] at h2
      rw [this]
      rfl
    · have : get? (nz A) x = some i := get?_of (nz_nodup h) (List.mem_filter.mpr ⟨hm, by simpa using hi⟩)
      rw [this]
theorem get?_nz {A : NI} (h : (ks A).Nodup) (x : Str) : get? (nz A) x = if get0 A x = 0 then none else some (get0 A x) := by
  have h0 := get0_nz h x
  by_cases hz : get0 A x = 0
  · rw [if_pos hz]
    cases e : get? (nz A) x with
    | none => rfl
    | some i =>
      have hm := (List.mem_filter.mp (get?_mem e)).2
      unfold get0 at h0
      rw [e] at h0
      have : i = 0 := by
        show (some i).getD 0 = 0
        rw [h0]
        exact hz
      simp [this] at hm
  · rw [if_neg hz]
    cases e : get? (nz A) x with
    | none =>
      exfalso
      unfold get0 at h0
      rw [e] at h0
      exact hz h0.symm
    | some i =>
      unfold get0 at h0
      rw [e] at h0
      exact congrArg some h0
/-! ### == of two -/
def eqI (A B : NI) : Bool := dicEq (A.map kvi) (B.map kvi)
theorem eqV_int (i j : Int) : eqV (.int i) (.int j) = (i == j) := rfl
theorem eqI_iff {A B : NI} (ha : (ks A).Nodup) (hb : (ks B).Nodup) : eqI A B = true ↔ ∀ x, get? A x = get? B x := by
  have hall : dicAll (A.map kvi) (B.map kvi) = true ↔ ∀ p ∈ A, get? B p.1 = some p.2 := by
    unfold dicAll
    rw [List.all_map, List.all_eq_true]
    constructor
    · intro h p hp
      have := h p hp
      show get? B p.1 = some p.2
      have e : (match valV (B.map kvi) (.inr p.1) with | some y => eqV (.int p.2) y | none => false) = true := this
      rw [valV_kvi] at e
      cases g : get? B p.1 with
      | none => rw [g] at e; cases e
      | some i =>
        rw [g] at e
        have : (p.2 == i) = true := e
        rw [eq_of_beq this]
    · intro h p hp
      show (match valV (B.map kvi) (.inr p.1) with | some y => eqV (.int p.2) y | none => false) = true
      rw [valV_kvi, h p hp]
      show (p.2 == p.2) = true
      simp
  unfold eqI dicEq
  rw [Bool.and_eq_true, hall, beq_iff_eq, List.length_map, List.length_map]
  constructor
  · rintro ⟨hl, h⟩ x
    -- A's keys are B's: as many, without doubles
    have sub : ∀ y ∈ ks A, y ∈ ks B := fun y hy => by
      obtain ⟨p, hp, e⟩ := List.mem_map.mp hy
      have := get?_mem (h p hp)
      exact List.mem_map.mpr ⟨(p.1, p.2), this, e⟩
    cases e : get? A x with
    | some i =>
      rw [h (x, i) (get?_mem e)]
    | none =>
      have hx := get?_none.mp e
      cases e2 : get? B x with
      | none => rfl
      | some j =>
        exfalso
        have hxb : x ∈ ks B := List.mem_map.mpr ⟨(x, j), get?_mem e2, rfl⟩
        obtain ⟨y, hy, hny⟩ := one_not_in (x :: ks A) ((ks B)) (List.nodup_cons.mpr ⟨hx, ha⟩) (by
          rw [List.length_cons]
          unfold ks
          rw [List.length_map, List.length_map]
          omega)
        rcases List.mem_cons.mp hy with e3 | e3
        · exact hny (e3 ▸ hxb)
        · exact hny (sub y e3)
  · intro h
    have hk : ∀ {A B : NI}, (ks A).Nodup → (∀ x, get? A x = get? B x) → A.length ≤ B.length := by
      intro A B ha h
      rcases Nat.lt_or_ge B.length A.length with hlt | hge
      · exfalso
        obtain ⟨y, hy, hny⟩ := one_not_in (ks A) (ks B) ha (by unfold ks; rw [List.length_map, List.length_map]; exact hlt)
        obtain ⟨p, hp, e⟩ := List.mem_map.mp hy
        have e1 := get?_of ha (show (p.1, p.2) ∈ A from hp)
        rw [h p.1] at e1
        exact hny (List.mem_map.mpr ⟨(p.1, p.2), get?_mem e1, e⟩)
      · exact hge
    refine ⟨Nat.le_antisymm (hk ha h) (hk hb fun x => (h x).symm), fun p hp => ?_⟩
    rw [← h p.1]
    exact get?_of ha hp
theorem nz_take {A : NI} {i : Nat} {p : Str × Int} (h : A[i]? = some p) : nz (A.take (i + 1)) = nz (A.take i) ++ (if p.2 ≠ 0 then [p] else []) := by
  unfold nz
  rw [List.take_succ, h, List.filter_append]
  congr 1
  show [p].filter _ = _
  by_cases hp : p.2 = 0
  · rw [List.filter_cons_of_neg (by simpa using hp), if_neg (by simpa using hp)]
    rfl
  · rw [List.filter_cons_of_pos (by simpa using hp), if_pos hp]
    rfl
theorem take_fresh {A : NI} (hn : (ks A).Nodup) {i : Nat} {p : Str × Int} (h : A[i]? = some p) : p.1 ∉ ks (A.take i) := by
  intro hm
  have h1 : (ks (A.take (i + 1))).Nodup := List.Nodup.sublist (List.Sublist.map _ (List.take_sublist _ _)) hn
  rw [List.take_succ, h] at h1
  unfold ks at h1 hm
  rw [List.map_append, List.nodup_append] at h1
  exact h1.2.2 p.1 hm p.1 (List.mem_map.mpr ⟨p, List.mem_singleton.mpr rfl, rfl⟩) rfl
theorem paired_at {α β : Type} {R : α → β → Prop} : ∀ {xs : List α} {ys : List β} {n : Nat} {a : α}, Paired R xs ys → xs[n]? = some a → ∃ b, ys[n]? = some b ∧ R a b
  | _, _, 0, _, .cons r _, e => ⟨_, rfl, by simp at e; rw [← e]; exact r⟩
  | _, _, n + 1, _, .cons _ t, e => let ⟨b, h1, h2⟩ := paired_at (n := n) t (by simpa using e); ⟨b, by simpa using h1, h2⟩
theorem paired_same {α β : Type} {R S : α → β → Prop} (h : ∀ a b, R a b → S a b) : ∀ {xs : List α} {ys : List β}, Paired R xs ys → Paired S xs ys
  | _, _, .nil => .nil
  | _, _, .cons r t => .cons (h _ _ r) (paired_same h t)
end Sl
/-! ## DicU -/
set_option Elab.async false
set_option linter.all false
set_option maxRecDepth 100000
set_option maxHeartbeats 4000000
namespace Sl
open PySem PySem.Spec PyProof.Rows L2
/-! the keys of two dicts together -/
def putI (A : NI) (x : Str) (i : Int) : NI := if x ∈ ks A then A.map (fun p => if p.1 = x then (p.1, i) else p) else A ++ [(x, i)]
def mrgI (A B : NI) : NI := B.foldl (fun acc p => putI acc p.1 p.2) A
theorem putK_kvi (A : NI) (x : Str) (i : Int) : putK (A.map kvi) (.inr x) (.int i) = (putI A x i).map kvi := by
  by_cases h : x ∈ ks A
  · unfold putI
    rw [if_pos h]
    unfold putK
    have hn : ((A.map kvi).any fun kv => decide (kv.1 = Sum.inr x)) = true := by
      obtain ⟨p, hp, e⟩ := List.mem_map.mp h
      exact List.any_eq_true.mpr ⟨kvi p, List.mem_map.mpr ⟨p, hp, rfl⟩, decide_eq_true (congrArg Sum.inr e)⟩
    rw [if_pos hn, List.map_map, List.map_map]
    refine List.map_congr_left fun p _ => ?_
    show (if (kvi p).1 = Sum.inr x then ((kvi p).1, V.int i) else kvi p) = kvi (if p.1 = x then (p.1, i) else p)
    by_cases e : p.1 = x
    · rw [if_pos e, if_pos (show (kvi p).1 = Sum.inr x from congrArg Sum.inr e)]
      rfl
    · rw [if_neg e, if_neg (show ¬ (kvi p).1 = Sum.inr x from fun q => e (Sum.inr.inj q))]
  · rw [putK_new A x i h]
    unfold putI
    rw [if_neg h]
theorem mergeK_kvi : ∀ (B A : NI), mergeK (A.map kvi) (B.map kvi) = (mrgI A B).map kvi
  | [], _ => rfl
  | p :: r, A => by
    show mergeK (putK (A.map kvi) (.inr p.1) (.int p.2)) (r.map kvi) = (mrgI (putI A p.1 p.2) r).map kvi
    rw [putK_kvi, mergeK_kvi r]
theorem ks_putI (A : NI) (x : Str) (i : Int) : ks (putI A x i) = if x ∈ ks A then ks A else ks A ++ [x] := by
  unfold putI
  by_cases h : x ∈ ks A
  · rw [if_pos h, if_pos h]
    unfold ks
    rw [List.map_map]
    refine List.map_congr_left fun p _ => ?_
    show (if p.1 = x then (p.1, i) else p).1 = p.1
    by_cases e : p.1 = x
    · rw [if_pos e]
    · rw [if_neg e]
  · rw [if_neg h, if_neg h]
    unfold ks
    rw [List.map_append]
    rfl
theorem putI_keys {A : NI} (x : Str) (i : Int) (h : (ks A).Nodup) : (ks (putI A x i)).Nodup ∧ ∀ y, y ∈ ks (putI A x i) ↔ y ∈ ks A ∨ y = x := by
  rw [ks_putI]
  by_cases hx : x ∈ ks A
  · rw [if_pos hx]
    refine ⟨h, fun y => ⟨.inl, fun q => ?_⟩⟩
    rcases q with q | q
    · exact q
    · rw [q]
      exact hx
  · rw [if_neg hx]
    refine ⟨List.nodup_append.mpr ⟨h, by simp, fun a ha b hb e => hx ?_⟩, fun y => by simp⟩
    rw [← List.mem_singleton.mp hb, ← e]
    exact ha
theorem mrgI_keys : ∀ (B A : NI), (ks A).Nodup → (ks (mrgI A B)).Nodup ∧ ∀ y, y ∈ ks (mrgI A B) ↔ y ∈ ks A ∨ y ∈ ks B
  | [], A, h => ⟨h, fun y => ⟨.inl, fun q => q.elim id fun q => absurd q List.not_mem_nil⟩⟩
  | p :: r, A, h => by
    obtain ⟨h1, h2⟩ := putI_keys p.1 p.2 h
    obtain ⟨h3, h4⟩ := mrgI_keys r (putI A p.1 p.2) h1
    refine ⟨h3, fun y => ?_⟩
    show y ∈ ks (mrgI (putI A p.1 p.2) r) ↔ y ∈ ks A ∨ y ∈ p.1 :: ks r
    rw [h4 y, h2 y, List.mem_cons, or_assoc]
theorem mrgI_len : ∀ (B A : NI), (mrgI A B).length ≤ A.length + B.length
  | [], A => Nat.le_refl _
  | p :: r, A => by
    have := mrgI_len r (putI A p.1 p.2)
    have h2 : (putI A p.1 p.2).length ≤ A.length + 1 := by
      unfold putI
      split
      · rw [List.length_map]
        omega
      · rw [List.length_append]
        exact Nat.le_refl _
    show (mrgI (putI A p.1 p.2) r).length ≤ A.length + (r.length + 1)
    omega
theorem get0_map {U : List Str} (hU : U.Nodup) (g : Str → Int) (x : Str) : get0 (U.map fun y => (y, g y)) x = if x ∈ U then g x else 0 := by
  by_cases h : x ∈ U
  · rw [if_pos h]
    unfold get0
    rw [get?_of (A := U.map fun y => (y, g y)) (i := g x) ?_ (List.mem_map.mpr ⟨x, h, rfl⟩)]
    · rfl
    · show (List.map _ _).Nodup
      rw [List.map_map]
      have : (U.map ((fun p : Str × Int => p.1) ∘ fun y => (y, g y))) = U := by
        have : ((fun p : Str × Int => p.1) ∘ fun y => (y, g y)) = id := rfl
        rw [this, List.map_id]
      rw [this]
      exact hU
  · rw [if_neg h]
    unfold get0
    have : get? (U.map fun y => (y, g y)) x = none := get?_none.mpr fun hm => h (by
      obtain ⟨p, hp, e⟩ := List.mem_map.mp hm
      obtain ⟨y, hy, ey⟩ := List.mem_map.mp hp
      subst ey
      exact e ▸ hy)
    rw [this]
    rfl
theorem ks_map (U : List Str) (g : Str → Int) : ks (U.map fun y => (y, g y)) = U := by
  unfold ks
  rw [List.map_map]
  exact List.map_id U
theorem get0_none {A : NI} {x : Str} (h : x ∉ ks A) : get0 A x = 0 := by
  unfold get0
  rw [get?_none.mpr h]
  rfl
end Sl
/-! ## DicP -/
set_option Elab.async false
set_option linter.all false
set_option maxRecDepth 100000
set_option maxHeartbeats 4000000
namespace Sl
open PySem PySem.Spec PyProof.Rows L2
theorem nodup_perm {α : Type} [DecidableEq α] : ∀ {xs ys : List α}, xs.Nodup → ys.Nodup → (∀ a, a ∈ xs ↔ a ∈ ys) → xs.Perm ys
  | [], ys, _, _, h => by
    have : ys = [] := List.eq_nil_iff_forall_not_mem.mpr fun a ha => List.not_mem_nil ((h a).mpr ha)
    rw [this]
  | x :: xs, ys, hx, hy, h => by
    obtain ⟨h1, h2⟩ := List.nodup_cons.mp hx
    have hm : x ∈ ys := (h x).mp List.mem_cons_self
    refine (List.Perm.cons x (nodup_perm h2 (hy.erase x) fun a => ?_)).trans (List.perm_cons_erase hm).symm
    rw [List.Nodup.mem_erase_iff hy]
    constructor
    · intro ha
      exact ⟨fun e => h1 (e ▸ ha), (h a).mp (List.mem_cons_of_mem _ ha)⟩
    · rintro ⟨ne, ha⟩
      rcases List.mem_cons.mp ((h a).mpr ha) with e | q
      · exact absurd e ne
      · exact q
theorem perm_unique {α : Type} {le : α → α → Prop} (anti : ∀ a b, le a b → le b a → a = b) : ∀ {xs ys : List α}, xs.Perm ys → xs.Pairwise le → ys.Pairwise le → xs = ys
  | [], ys, h, _, _ => (List.nil_perm.mp h).symm
  | x :: xs, [], h, _, _ => absurd (List.perm_nil.mp h) (List.cons_ne_nil _ _)
  | x :: xs, y :: ys, h, h1, h2 => by
    obtain ⟨a1, a2⟩ := List.pairwise_cons.mp h1
    obtain ⟨b1, b2⟩ := List.pairwise_cons.mp h2
    have e : x = y := by
      have hx : x ∈ y :: ys := h.subset List.mem_cons_self
      have hy : y ∈ x :: xs := h.symm.subset List.mem_cons_self
      rcases List.mem_cons.mp hx with e | hx
      · exact e
      · rcases List.mem_cons.mp hy with e | hy
        · exact e.symm
        · exact anti _ _ (a1 y hy) (b1 x hx)
    subst e
    rw [perm_unique anti (List.Perm.cons_inv h) a2 b2]
def leS (a b : Str) : Prop := ¬ b.cps.toList < a.cps.toList
theorem leS_anti (a b : Str) (h1 : leS a b) (h2 : leS b a) : a = b := by
  have : a.cps.toList = b.cps.toList := List.le_antisymm (show ¬ _ from h1) (show ¬ _ from h2)
  exact Str.ext' (Array.toList_inj.mp this)
theorem leS_trans {a b c : Str} (h1 : leS a b) (h2 : leS b c) : leS a c := List.le_trans (show ¬ _ from h1) (show ¬ _ from h2)
theorem rising_pairwise : ∀ (l : List Str) (p : Str), risingS p l = true → (p :: l).Pairwise leS
  | [], p, _ => List.pairwise_singleton _ _
  | x :: r, p, h => by
    have h' : (!ltCps x.cps.toList p.cps.toList && risingS x r) = true := h
    obtain ⟨h1, h2⟩ := Bool.and_eq_true_iff.mp h'
    have ih := rising_pairwise r x h2
    have hle : leS p x := by
      rw [ltCps_eq] at h1
      intro hlt
      rw [decide_eq_true hlt] at h1
      cases h1
    refine List.pairwise_cons.mpr ⟨fun y hy => ?_, ih⟩
    rcases List.mem_cons.mp hy with e | hy
    · rw [e]
      exact hle
    · exact leS_trans hle ((List.pairwise_cons.mp ih).1 y hy)
theorem sorted_pairwise {l : List Str} (h : sortedS l = true) : l.Pairwise leS := by
  cases l with
  | nil => exact List.Pairwise.nil
  | cons x r => exact rising_pairwise r x h
/-! ### the same entries -/
theorem ks_perm {A B : NI} (h : A.Perm B) : (ks A).Perm (ks B) := h.map _
theorem get?_perm {A B : NI} (h : A.Perm B) (ha : (ks A).Nodup) (x : Str) : get? A x = get? B x := by
  have hb : (ks B).Nodup := (ks_perm h).nodup_iff.mp ha
  cases e : get? A x with
  | none =>
    refine (get?_none.mpr fun hm => (get?_none.mp e) ((ks_perm h).mem_iff.mpr hm)).symm
  | some i => exact (get?_of hb (h.mem_iff.mp (get?_mem e))).symm
theorem get0_perm {A B : NI} (h : A.Perm B) (ha : (ks A).Nodup) (x : Str) : get0 A x = get0 B x := by
  unfold get0
  rw [get?_perm h ha]
def noZ (A : NI) : Prop := ∀ p ∈ A, p.2 ≠ 0
theorem nz_noZ (A : NI) : noZ (nz A) := fun p hp => by simpa using (List.mem_filter.mp hp).2
theorem entry_iff {A : NI} (ha : (ks A).Nodup) (za : noZ A) (p : Str × Int) : p ∈ A ↔ p.2 ≠ 0 ∧ get0 A p.1 = p.2 := by
  constructor
  · intro h
    refine ⟨za p h, ?_⟩
    unfold get0
    rw [get?_of ha (show (p.1, p.2) ∈ A from h)]
    rfl
  · rintro ⟨h1, h2⟩
    unfold get0 at h2
    cases e : get? A p.1 with
    | none => rw [e] at h2; exact absurd h2.symm h1
    | some i =>
      rw [e] at h2
      have e2 : i = p.2 := h2
      subst e2
      exact get?_mem e
theorem nodup_of_ks : ∀ {A : NI}, (ks A).Nodup → A.Nodup
  | [], _ => List.nodup_nil
  | p :: r, h => by
    obtain ⟨h1, h2⟩ := List.nodup_cons.mp (show (p.1 :: ks r).Nodup from h)
    exact List.nodup_cons.mpr ⟨fun hm => h1 (List.mem_map.mpr ⟨p, hm, rfl⟩), nodup_of_ks h2⟩
theorem perm_of_get0 {A B : NI} (ha : (ks A).Nodup) (hb : (ks B).Nodup) (za : noZ A) (zb : noZ B) (h : ∀ x, get0 A x = get0 B x) : A.Perm B := by
  have na : A.Nodup := nodup_of_ks ha
  have nb : B.Nodup := nodup_of_ks hb
  refine nodup_perm na nb fun p => ?_
  rw [entry_iff ha za, entry_iff hb zb, h]
theorem sum_nz : ∀ A : NI, ((nz A).map (·.2)).sum = (A.map (·.2)).sum
  | [] => rfl
  | p :: r => by
    have ih := sum_nz r
    by_cases h : p.2 = 0
    · have : nz (p :: r) = nz r := List.filter_cons_of_neg (by simpa using h)
      rw [this, ih, List.map_cons, List.sum_cons, h, Int.zero_add]
    · have : nz (p :: r) = p :: nz r := List.filter_cons_of_pos (by simpa using h)
      rw [this, List.map_cons, List.sum_cons, ih, List.map_cons, List.sum_cons]
theorem sum_perm {A B : List Int} (h : A.Perm B) : A.sum = B.sum := by
  induction h with
  | nil => rfl
  | cons x _ ih => rw [List.sum_cons, List.sum_cons, ih]
  | swap x y l => rw [List.sum_cons, List.sum_cons, List.sum_cons, List.sum_cons]; omega
  | trans _ _ h1 h2 => exact h1.trans h2
end Sl
/-! ## SlLcp -/
set_option Elab.async false
set_option linter.all false
set_option maxRecDepth 100000
set_option maxHeartbeats 4000000
namespace Sl
open PySem PySem.Spec PyProof.Rows L2
/-! [(x, e) for x in names if ..] -/
def PairsL (H : Hp) (D : Addr) (A : NI) : Prop := ∃ ts : List Addr, H D = some (.lst (ts.map V.ref)) ∧ Paired (fun (t : Addr) (q : Str × Int) => H t = some (.tup [.str q.1, .int q.2])) ts A
theorem paired_kvi {H : Hp} {K : PySem.W.Frag} : ∀ {ts : List Addr} {A : NI}, Paired (fun (t : Addr) (q : Str × Int) => H t = some (.tup [.str q.1, .int q.2])) ts A → Paired (fun p kv => SqT K H p [kV kv.1, kv.2]) ts (A.map kvi)
  | _, _, .nil => .nil
  | _, _, .cons r t => .cons (SqT.of r) (paired_kvi t)
theorem paired_len {α β : Type} {R : α → β → Prop} : ∀ {xs : List α} {ys : List β}, Paired R xs ys → xs.length = ys.length
  | _, _, .nil => rfl
  | _, _, .cons _ t => congrArg Nat.succ (paired_len t)
theorem lcp_of {K : PySem.W.Frag} {σ : L2.St} {H1 : Hp} {l p D : Addr} {ys : List Str} {m : Nat} {tt : TT} {tv : TE} {Qd : Hp → Prop} {S : Nat → Hp → Prop} {good : Str → Int → Prop} {b : Str → Bool}
    (hm : m < σ.length) (hl : SqL K H1 l (ys.map V.str)) (nl : l ≠ p) (hlen : ys.length ≤ 100) (hSe : ∀ n H, S n H → ∃ o, H p = some o) (hS0 : S 0 H1) (hSu : ∀ n H q o, q ≠ p → S n H → S n (upd H q o)) (hSm : ∀ n H, S n H → S (n + 1) H)
    (ht : ∀ x ∈ ys, ∀ (i : Nat) (H' : Hp) (Q' : Bool → Hp → Prop), S i H' → Keep p H1 H' → Q' (b x) H' → tt ((wipe σ [m]).set m (some (.str x))) H' Q')
    (hv : ∀ x ∈ ys, ∀ (i : Nat) (H' : Hp) (Q' : VK), i < ys.length → S i H' → Keep p H1 H' → (∀ (v : Int) (H'' : Hp), good x v → S (i + 1) H'' → Keep p H' H'' → Q' (.int v) H'') → tv ((wipe σ [m]).set m (some (.str x))) H' Q')
    (hD : H1 D = none) (k : ∀ (A : NI) (H' : Hp), Keep p H1 H' → S ys.length H' → ks A = ys.filter b → (∀ q ∈ A, good q.1 q.2) → PairsL H' D A → Qd H') :
    ∃ W : Nat → Nat → Hp → Prop, (∃ m, W 0 m (upd H1 D (.lst []))) ∧ ∀ i m' H, W i m' H → ((Itl K l).stop i H ∧ Qd H) ∨ ((Itl K l).go i H ∧ ∃ Nx : Hp → Prop, (∀ H', Nx H' → ∃ m'', m'' < m' ∧ W (i + 1) m'' H') ∧ ∀ x H', (Itl K l).yld i H x H' → gName m x (wipe σ [m]) H' fun σ2 H2 => wipe σ2 [m] = wipe σ [m] ∧ tt σ2 H2 fun c H3 =>
        if c = true then tTup (tCons (tVar m) (tCons tv tNil)) σ2 H3 fun y H4 => ∃ acc, H4 D = some (.lst acc) ∧ acc.length < sizeLine ∧ Nx (upd H4 D (.lst (acc ++ [y]))) else Nx H3) := by
  obtain ⟨po, hpo⟩ := hSe _ _ hS0
  have nD : D ≠ p := fun e => by rw [e, hpo] at hD; cases hD
  refine lc_list (K := K) (a := l) (xs := ys.map V.str) (Qd := Qd) (fun i H' => S i H' ∧ Keep p H1 H' ∧ ∃ A : NI, ks A = (ys.take i).filter b ∧ (∀ q ∈ A, good q.1 q.2) ∧ ∃ ts : List Addr, H' D = some (.lst (ts.map V.ref)) ∧ Paired (fun (t : Addr) (q : Str × Int) => t ≠ p ∧ H' t = some (.tup [.str q.1, .int q.2])) ts A) ⟨hSu _ _ _ _ nD hS0, Keep.new hD, [], rfl, fun _ h => absurd h List.not_mem_nil, [], upd_same, .nil⟩ (fun i H' _ ⟨_, kp, _⟩ => kp.seq nl hl) ?_ ?_
  · intro i y H' hy ⟨hS, kp, A, hA, hg, ts, hd, hP⟩
    rw [List.getElem?_map] at hy
    obtain ⟨x, ex, ey⟩ := Option.map_eq_some_iff.mp hy
    subst ey
    have hx := List.mem_of_getElem? ex
    have hi : i < ys.length := (List.getElem?_eq_some_iff.mp ex).1
    have wm : m < (wipe σ [m]).length := by rw [wipe_length]; exact hm
    refine ⟨?_, ?_⟩
    · show ((σ.set m none).set m (some (V.str x))).set m none = σ.set m none
      rw [List.set_set, List.set_set]
    refine ht x hx i H' _ hS kp ?_
    have lA : A.length ≤ i := by
      have e1 : (ks A).length = A.length := by unfold ks; rw [List.length_map]
      rw [← e1, hA]
      have := List.length_filter_le b (ys.take i)
      rw [List.length_take] at this
      omega
    cases hb : b x with
    | false =>
      refine iteF ⟨hSm _ _ hS, kp, A, ?_, hg, ts, hd, hP⟩
      rw [hA, List.take_succ, ex, List.filter_append]
      show _ = _ ++ ([x].filter b)
      rw [List.filter_cons_of_neg (by simp [hb]), List.filter_nil, List.append_nil]
    | true =>
      refine iteT ⟨.str x, by rw [List.getElem?_set_self wm], ?_⟩
      refine hv x hx i H' _ hi hS kp fun v H'' hgv hS2 kp2 => ⟨(by show 2 ≤ sizeLine; decide), fun t ht => ?_⟩
      have nDt : ∀ {H2 : Hp}, Keep p H' H2 → H2 D = some (.lst (ts.map V.ref)) := fun kq => kq _ _ nD hd
      have hd2 := nDt kp2
      have nt : t ≠ D := fun e => by rw [e, hd2] at ht; cases ht
      have htp : t ≠ p := fun e => by
        obtain ⟨o, ho⟩ := hSe _ _ hS2
        rw [e, ho] at ht
        cases ht
      refine ⟨_, by rw [upd_ne nt.symm]; exact hd2, ?_, ?_⟩
      · rw [List.length_map, paired_len hP, sizeLine_eq]
        omega
      · refine ⟨hSu _ _ _ _ nD (hSu _ _ _ _ htp hS2), fun c o n e => ?_, A ++ [(x, v)], ?_, ?_, ts ++ [t], ?_, ?_⟩
        · have ncD : c ≠ D := fun e2 => by rw [e2, hD] at e; cases e
          have e3 := kp2 _ _ n (kp _ _ n e)
          rw [upd_ne ncD, upd_ne (ne_of_none e3 ht)]
          exact e3
        · unfold ks at hA ⊢
          rw [List.map_append, hA, List.take_succ, ex, List.filter_append]
          show _ = _ ++ ([x].filter b)
          rw [List.filter_cons_of_pos hb, List.filter_nil]
          rfl
        · intro q hq
          rcases List.mem_append.mp hq with h | h
          · exact hg q h
          · rw [List.mem_singleton.mp h]
            exact hgv
        · rw [upd_same, List.map_append]
          rfl
        · have keepT : ∀ (t' : Addr) (q : Str × Int), (t' ≠ p ∧ H' t' = some (.tup [.str q.1, .int q.2])) → (t' ≠ p ∧ (upd (upd H'' t (.tup [.str x, .int v])) D (.lst (ts.map V.ref ++ [V.ref t]))) t' = some (.tup [.str q.1, .int q.2])) := by
            intro t' q r
            have h1 := kp2 _ _ r.1 r.2
            have h2 : t' ≠ D := fun e => by rw [e, hd2] at h1; cases h1
            refine ⟨r.1, ?_⟩
            rw [upd_ne h2, upd_ne (ne_of_none h1 ht)]
            exact h1
          refine Paired.snoc (paired_same keepT hP) ⟨htp, ?_⟩
          rw [upd_ne nt, upd_same]
  · intro H' ⟨hS, kp, A, hA, hg, ts, hd, hP⟩
    rw [List.length_map] at hS hA
    rw [List.take_length] at hA
    exact k A H' kp hS hA hg ⟨ts, hd, paired_same (fun _ _ r => r.2) hP⟩
end Sl
/-! ## PlanA -/
set_option Elab.async false
set_option linter.all false
set_option maxRecDepth 100000
set_option maxHeartbeats 8000000
namespace Lw
open PySem PySem.Spec PyProof.Rows L2 Sl
section
variable {P : Program} {w : World} {K : PySem.W.Frag} {mg : Str → Option Value} {base : Heap} {f : Addr} {fd : FuncData}
abbrev rLn (K : PySem.W.Frag) : List V → Hp → VK → Prop := fun vs G R => ∃ b zs, vs = [.ref b] ∧ (SqL K G b zs ∨ SqT K G b zs) ∧ R (.int zs.length) G
def natI (is : List Nat) : List V := is.map fun i => V.int ((i : Nat) : Int)
theorem erase_map {α β : Type} (g : α → β) : ∀ (ls : List α) (k : Nat), (ls.map g).eraseIdx k = (ls.eraseIdx k).map g
  | [], _ => rfl
  | _ :: _, 0 => rfl
  | x :: r, k + 1 => by
    show g x :: (r.map g).eraseIdx k = g x :: (r.eraseIdx k).map g
    rw [erase_map g r k]
theorem erase_perm {α : Type} : ∀ (ls : List α) (k : Nat) (h : k < ls.length), (ls[k] :: ls.eraseIdx k).Perm ls
  | [], _, h => absurd h (Nat.not_lt_zero _)
  | _ :: _, 0, _ => List.Perm.refl _
  | x :: r, k + 1, h => by
    have h' : k < r.length := by simpa using h
    show (r[k] :: x :: r.eraseIdx k).Perm (x :: r)
    exact (List.Perm.swap x _ _).trans (List.Perm.cons x (erase_perm r k h'))
def sp_order (K : PySem.W.Frag) : Sp := fun vs H Q _ => ∃ (p : Addr) (m n : Nat), vs = [.ref p, .int (m : Int)] ∧ SrcAt H p n ∧ n ≤ 98000 ∧ m ≤ 60 ∧
  ∀ (q : Addr) (is : List Nat) (H' : Hp), is.Perm (List.range m) → H q = none → H' q = some (.lst (natI is)) → SrcAt H' p (n + m) → Keep p H H' → Q (.ref q) H'
theorem ok_order (F : FnP K "_law_order" s_l_order [] f fd) (D : Cal P w K mg base 1 "_law_draw" [] sp_draw) (mR : mg "range" = none) (mL : mg "list" = none) (mLen : mg "len" = none) : FnOk P w K mg base CX0 2 f fd ["_law_source_here", "_law_many"] (sp_order K) := by
  refine F.ok sc_l_order (fun vs H Q E h => ?_) (fun cdv A outer s H vs Q E hr h => ?_)
  · obtain ⟨p, m, n, rfl, _⟩ := h
    rfl
  · obtain ⟨p, m, n, rfl, hp, hn, hm, k⟩ := h
    have nd := sc_l_order.nd
    refine ⟨_, PSs.nox (pss_cons (ps_set (i := 2) nd rfl (.inr rfl) (pe_listRg rfl (by rfl) mL (prg_1 (by rfl) mR (pv 1))))
      (pss_one (ps_ret (pe_lc (own := [("_law_k", 3)]) (g := gName 3) (tt := tYes) (te := tBM K "list" rPopAt (tVar 2) (tCons (tCall sp_draw [] E0 (tCons (tVar 0) (tCons (tCB (rLn K) (tCons (tVar 2) tNil)) tNil))) tNil)) rfl nd (pi_range1 (by rfl) mR (pa_cons (pv 1) pa_nil)) (blkOk_by (N := ["_law_source_here", "_law_many", "_law_left", "_law_k"]) (sc := defScope s_l_order) (by decide +kernel))
        (fun _ _ _ _ _ => pg_name (i := 3) nd rfl (Or.inl rfl)) (fun _ _ _ _ _ => pts_nil)
        (fun _ _ _ _ _ => pe_bm PySem.F.plainAttrs_list PySem.F.slot_list_pop PySem.F.type_list_pop mt_popAt (pv 2) (pa_cons (pe_cal D hr (pa_cons (pv 0) (pa_cons (pe_callB call_len_seq (by rfl) mLen boot_len (pa_cons (pv 2) pa_nil)) pa_nil))) pa_nil)))))), ?_⟩
    show tSeq (tAsg (tLstRg (tRg1 (tVar 1))) (gName 2)) _ _ [some (V.ref p), some (V.int (m : Int)), none, none] H
    refine asg_of ⟨_, rfl, (m : Int), rfl, .of_le (Int.le_refl 0) (by omega) (by decide) (by omega), fun q0 hq0 => ?_⟩
    have er : rgV 0 (m : Int) = natI (List.range m) := by
      unfold rgV natI
      rw [show ((m : Int) - 0).toNat = m by omega]
      refine List.map_congr_left fun i _ => ?_
      rw [Int.zero_add]
    rw [er]
    obtain ⟨po, hpo⟩ := hp.there
    have nq0 : q0 ≠ p := fun e => by rw [e, hpo] at hq0; cases hq0
    have hp0 := hp.new (o := .lst (natI (List.range m))) hq0
    have k0 : Keep p H (upd H q0 (.lst (natI (List.range m)))) := Keep.new hq0
    have e0 : (upd H q0 (.lst (natI (List.range m)))) q0 = some (.lst (natI (List.range m))) := upd_same
    show tRet (tLc (iRng1 (tCons (tVar 1) tNil)) (gName 3) tYes (tBM K "list" rPopAt (tVar 2) (tCons (tCall sp_draw [] E0 (tCons (tVar 0) (tCons (tCB (rLn K) (tCons (tVar 2) tNil)) tNil))) tNil)) [3]) _ [some (V.ref p), some (V.int (m : Int)), some (V.ref q0), none] _
    generalize upd H q0 (.lst (natI (List.range m))) = H1 at hp0 k0 e0
    refine ⟨_, rfl, (m : Int), rfl, by omega, by omega, fun D hD => ?_⟩
    have nDp : D ≠ p := fun e => by
      obtain ⟨o, ho⟩ := hp0.there
      rw [e, ho] at hD
      cases hD
    have nDq : D ≠ q0 := fun e => by rw [e, e0] at hD; cases hD
    have ln : ∀ is : List Nat, (natI is).length = is.length := fun is => by unfold natI; rw [List.length_map]
    refine lc_range (lo := 0) (n := m) (fun i H' => SrcAt H' p (n + i) ∧ Keep p H H' ∧ ∃ ls is : List Nat, H' q0 = some (.lst (natI ls)) ∧ H' D = some (.lst (natI is)) ∧ (is ++ ls).Perm (List.range m) ∧ is.length = i)
      ⟨hp0.new hD, k0.trans (Keep.new hD), List.range m, [], by rw [upd_ne nDq.symm]; exact e0, upd_same, List.Perm.refl _, rfl⟩ ?_ ?_
    · intro i H' hi ⟨hp1, kp, ls, is, hls, his, pm, li⟩
      have ll : ls.length = m - i := by
        have := pm.length_eq
        rw [List.length_append, List.length_range] at this
        omega
      refine ⟨rfl, yes_of (iteT ?_)⟩
      refine ⟨_, rfl, .inl ⟨rfl, _, SqL.of hls⟩, _, rfl, _, rfl, q0, _, rfl, .inl (SqL.of hls), p, _, n + i, rfl, hp1, by omega, by rw [ln]; omega, (by rw [ln, ll]; exact Int.lt_trans (show ((m - i : Nat) : Int) < 100 by omega) (by decide +kernel)), fun j H2 j0 j1 hp2 k2 => ?_⟩
      rw [ln] at j1
      have hj : j.toNat < ls.length := by omega
      have sx : seqIndex? j (natI ls).length = some j.toNat := by
        have h1 : ¬ j < 0 := by omega
        unfold seqIndex?
        rw [ln]
        dsimp only
        rw [if_neg h1, decide_eq_true j0, decide_eq_true j1]
        rfl
      refine ⟨q0, natI ls, j, j.toNat, .int ((ls[j.toNat] : Nat) : Int), rfl, rfl, k2 _ _ nq0 hls, by omega, by omega, sx, ?_, ?_⟩
      · unfold natI
        rw [List.getElem?_map, List.getElem?_eq_getElem hj]
        rfl
      · have hD2 := k2 _ _ nDp his
        refine ⟨natI is, by rw [upd_ne nDq]; exact hD2, by rw [ln, li, sizeLine_eq]; omega, ?_, ?_, ls.eraseIdx j.toNat, is ++ [ls[j.toNat]], ?_, ?_, ?_, ?_⟩
        · obtain ⟨g, sd, cc, e, z⟩ := hp2
          exact ⟨g, sd, cc, by rw [upd_ne nDp.symm, upd_ne nq0.symm]; exact e, z⟩
        · intro b o nb e
          have nbq : b ≠ q0 := fun e2 => by rw [e2, hq0] at e; cases e
          have nbD : b ≠ D := fun e2 => by
            have h1 := k0 _ _ nb e
            rw [e2, hD] at h1
            cases h1
          rw [upd_ne nbD, upd_ne nbq]
          exact k2 _ _ nb (kp _ _ nb e)
        · rw [upd_ne nDq.symm, upd_same]
          unfold natI
          rw [erase_map]
        · rw [upd_same]
          unfold natI
          rw [List.map_append]
          rfl
        · rw [List.append_assoc]
          exact (List.Perm.append_left is (erase_perm ls j.toNat hj)).trans pm
        · rw [List.length_append, li]
          rfl
    · intro H' ⟨hp1, kp, ls, is, hls, his, pm, li⟩
      have l0 : ls = [] := by
        have := pm.length_eq
        rw [List.length_append, List.length_range, li] at this
        exact List.length_eq_zero_iff.mp (by omega)
      rw [l0, List.append_nil] at pm
      have fr : H D = none := by
        cases e : H D with
        | none => rfl
        | some o => rw [k0 _ _ nDp e] at hD; cases hD
      exact k D is H' pm fr his hp1 kp
def sp_subset (K : PySem.W.Frag) : Sp := fun vs H Q _ => ∃ (p l : Addr) (xs : List V) (n : Nat), vs = [.ref p, .ref l] ∧ SrcAt H p n ∧ n ≤ 98000 ∧ SqL K H l xs ∧ l ≠ p ∧ xs.length ≤ 60 ∧
  ∀ (q : Addr) (zs : List V) (H' : Hp), zs.Sublist xs → H q = none → H' q = some (.lst zs) → SrcAt H' p (n + xs.length) → Keep p H H' → Q (.ref q) H'
theorem ok_subset (F : FnP K "_law_subset" s_l_subset [] f fd) (D : Cal P w K mg base 1 "_law_draw" [] sp_draw) : FnOk P w K mg base CX0 2 f fd ["_law_source_here", "_law_row"] (sp_subset K) := by
  refine F.ok sc_l_subset (fun vs H Q E h => ?_) (fun cdv A outer s H vs Q E hr h => ?_)
  · obtain ⟨p, l, xs, n, rfl, _⟩ := h
    rfl
  · obtain ⟨p, l, xs, n, rfl, hp, hn, hl, nl, hx, k⟩ := h
    have nd := sc_l_subset.nd
    refine ⟨_, PSs.nox (pss_one (ps_ret (pe_lc (own := [("_law_one", 2)]) (g := gName 2) rfl nd (pi_list (pv 1)) (blkOk_by (N := ["_law_source_here", "_law_row", "_law_one"]) (sc := defScope s_l_subset) (by decide +kernel))
        (fun _ _ _ _ _ => pg_name (i := 2) nd rfl (Or.inl rfl)) (fun _ _ _ _ _ => pts_one (pt_cmpR op_eq (pe_cal D hr (pa_cons (pv 0) (pa_cons pe_int pa_nil))) pe_int (nomark _))) (fun _ _ _ _ _ => pv 2)))), ?_⟩
    refine ⟨_, rfl, l, rfl, ⟨_, hl⟩, fun Dd hD => ?_⟩
    obtain ⟨po, hpo⟩ := hp.there
    have nD : Dd ≠ p := fun e => by rw [e, hpo] at hD; cases hD
    refine lc_list (K := K) (a := l) (xs := xs) (fun i H' => SrcAt H' p (n + i) ∧ Keep p H H' ∧ ∃ zs : List V, zs.Sublist (xs.take i) ∧ H' Dd = some (.lst zs)) ⟨hp.new hD, Keep.new hD, [], List.Sublist.refl _, upd_same⟩ (fun i H' _ ⟨_, kp, _⟩ => kp.seq nl hl) ?_ ?_
    · intro i y H' hy ⟨hp1, kp, zs, sz, hz⟩
      have hi : i < xs.length := (List.getElem?_eq_some_iff.mp hy).1
      refine ⟨rfl, test_of (draw_of rfl hp1 (by omega) (by decide) (by decide +kernel) fun j H2 j0 j1 hp2 k2 => ⟨rfl, _, rfl, ite_of (fun _ => ?_) (fun _ => ?_)⟩)⟩
      · have lz : zs.length ≤ 60 := by
          have h1 := sz.length_le
          rw [List.length_take] at h1
          omega
        refine ⟨_, rfl, zs, k2 _ _ nD hz, by rw [sizeLine_eq]; omega, ?_, ?_, zs ++ [y], ?_, upd_same⟩
        · obtain ⟨g, sd, cc, e, z⟩ := hp2
          exact ⟨g, sd, cc, by rw [upd_ne nD.symm]; exact e, z⟩
        · intro b o nb e
          have nbD : b ≠ Dd := fun e2 => by rw [e2, hD] at e; cases e
          rw [upd_ne nbD]
          exact k2 _ _ nb (kp _ _ nb e)
        · rw [List.take_succ, hy]
          exact List.Sublist.append sz (List.Sublist.refl _)
      · refine ⟨hp2, kp.trans k2, zs, ?_, k2 _ _ nD hz⟩
        rw [List.take_succ]
        exact sz.trans (List.sublist_append_left _ _)
    · intro H' ⟨hp1, kp, zs, sz, hz⟩
      rw [List.take_length] at sz
      exact k Dd zs H' sz hD hz hp1 kp
end
end Lw
/-! ## PlanB -/
set_option Elab.async false
set_option linter.all false
set_option maxRecDepth 100000
set_option maxHeartbeats 8000000
namespace Lw
open PySem PySem.Spec PyProof.Rows L2 Sl
section
variable {P : Program} {w : World} {K : PySem.W.Frag} {mg : Str → Option Value} {base : Heap} {f : Addr} {fd : FuncData}
def sp_some (K : PySem.W.Frag) : Sp := fun vs H Q _ => ∃ (p l : Addr) (xs : List V) (n : Nat), vs = [.ref p, .ref l] ∧ SrcAt H p n ∧ n ≤ 97000 ∧ SqL K H l xs ∧ l ≠ p ∧ 1 ≤ xs.length ∧ xs.length ≤ 60 ∧
  ∀ (q : Addr) (F zs : List V) (H' : Hp), F.Perm xs → zs.Sublist F → 1 ≤ zs.length → H q = none → H' q = some (.lst zs) → SrcAt H' p (n + xs.length + 1) → Keep p H H' → Q (.ref q) H'
theorem ok_some (F : FnP K "_law_some" s_l_some [] f fd) (D : Cal P w K mg base 1 "_law_draw" [] sp_draw) (O : Cal P w K mg base 2 "_law_order" [] (sp_order K)) (mLen : mg "len" = none) : FnOk P w K mg base CX0 3 f fd ["_law_source_here", "_law_things"] (sp_some K) := by
  refine F.ok sc_l_some (fun vs H Q E h => ?_) (fun cdv A outer s H vs Q E hr h => ?_)
  · obtain ⟨p, l, xs, n, rfl, _⟩ := h
    rfl
  · obtain ⟨p, l, xs, n, rfl, hp, hn, hl, nl, h1, hx, k⟩ := h
    have nd := sc_l_some.nd
    have hr1 := hr.mono (show 1 ≤ 2 by decide)
    refine ⟨_, PSs.nox (pss_cons (ps_setLc (i := 2) (own := [("_law_k", 3)]) (g := gName 3) (tt := tYes) (te := tOp (rIxL K) (tVar 1) (tVar 3)) rfl nd rfl rfl (sw_true rfl rfl rfl (by decide +kernel)) (pi_list (pe_cal O hr (pa_cons (pv 0) (pa_cons (pe_callB (r := rLn K) call_len_seq (by rfl) mLen boot_len (pa_cons (pv 1) pa_nil)) pa_nil))))
        (blkOk_by (N := ["_law_source_here", "_law_things", "_law_found", "_law_k"]) (sc := defScope s_l_some) (by decide +kernel)) (fun _ _ _ _ _ => pg_name (i := 3) nd rfl (Or.inl rfl)) (fun _ _ _ _ _ => pts_nil) (fun _ _ _ _ _ => pe_ix (r := rIxL K) ix_list (pv 1) (pv 3) (fun _ _ => rfl)))
      (pss_one (ps_ret (pe_slice sl_list (pv 2) po_none (po_some (pe_op op_add pe_int (pe_cal D hr1 (pa_cons (pv 0) (pa_cons (pe_callB (r := rLn K) call_len_seq (by rfl) mLen boot_len (pa_cons (pv 2) pa_nil)) pa_nil))))))))), ?_⟩
    show tSeq (tAsg (tLc (iList K (tCall (sp_order K) [] E0 (tCons (tVar 0) (tCons (tCB (rLn K) (tCons (tVar 1) tNil)) tNil)))) (gName 3) tYes (tOp (rIxL K) (tVar 1) (tVar 3)) [3]) (gName 2)) _ _ [some (V.ref p), some (V.ref l), none, none] H
    refine asg_of ⟨_, rfl, _, rfl, l, xs, rfl, .inl hl, p, xs.length, n, rfl, hp, by omega, by omega, fun q is H1 pm hq hqe hp1 kp1 => ?_⟩
    obtain ⟨po, hpo⟩ := hp.there
    refine ⟨q, rfl, ⟨_, SqL.of hqe⟩, fun Dd hD => ?_⟩
    have nD : Dd ≠ p := fun e => by
      obtain ⟨o, ho⟩ := hp1.there
      rw [e, ho] at hD
      cases hD
    have hl1 := kp1.seq nl hl
    refine lc_list (K := K) (a := q) (xs := natI is) (fun i H' => Same H1 H' ∧ H' Dd = some (.lst ((is.take i).map fun j => xs.getD j .non))) ⟨same_new hD, upd_same⟩ (fun i H' _ ⟨s2, _⟩ => SqL.of (s2 _ _ hqe)) ?_ ?_
    · intro i y H' hy ⟨s2, hz⟩
      unfold natI at hy
      rw [List.getElem?_map] at hy
      obtain ⟨j, ej, ey⟩ := Option.map_eq_some_iff.mp hy
      subst ey
      have hj : j < xs.length := List.mem_range.mp (pm.mem_iff.mp (List.mem_of_getElem? ej))
      refine ⟨rfl, yes_of (iteT ⟨_, rfl, _, rfl, l, xs, (j : Int), xs.getD j .non, rfl, rfl, sq_same hl1 s2, ?_, _, hz, ?_, ?_, ?_⟩)⟩
      · refine atI_nat ?_
        rw [List.getD_eq_getElem?_getD, List.getElem?_eq_getElem hj]
        rfl
      · rw [List.length_map, List.length_take, sizeLine_eq]
        have := pm.length_eq
        rw [List.length_range] at this
        omega
      · intro c o e
        rw [upd_ne (ne_of_none e hD)]
        exact s2 _ _ e
      · rw [upd_same, List.take_succ, ej, List.map_append]
        rfl
    · intro H2 ⟨s2, hz⟩
      have et : (is.take (natI is).length) = is := by
        unfold natI
        rw [List.length_map]
        exact List.take_length
      rw [et] at hz
      have eF : (List.range xs.length).map (fun j => xs.getD j V.non) = xs := by
        refine List.ext_getElem? fun i => ?_
        rw [List.getElem?_map]
        by_cases hi : i < xs.length
        · rw [List.getElem?_range hi, List.getElem?_eq_getElem hi]
          show some (xs.getD i V.non) = _
          rw [List.getD_eq_getElem?_getD, List.getElem?_eq_getElem hi]
          rfl
        · rw [List.getElem?_eq_none (by rw [List.length_range]; omega), List.getElem?_eq_none (by omega)]
          rfl
      have pF : (is.map fun j => xs.getD j V.non).Perm xs := by
        have := pm.map (fun j => xs.getD j V.non)
        rwa [eF] at this
      have hp2 : SrcAt H2 p (n + xs.length) := by
        obtain ⟨g, sd, cc, e, z⟩ := hp1
        exact ⟨g, sd, cc, s2 _ _ e, z⟩
      have k2 : Keep p H H2 := kp1.trans (Keep.of_same s2)
      have frD : H Dd = none := by
        cases e : H Dd with
        | none => rfl
        | some o => rw [kp1 _ _ nD e] at hD; cases hD
      have lF := pF.length_eq
      generalize (is.map fun j => xs.getD j V.non) = FF at hz pF lF
      show tRet (tSl (rSlL K) (tVar 2) tNoPart (tPart (tOp (rI0 fun i j => .int (i + j)) (tC (.int 1)) (tCall sp_draw [] E0 (tCons (tVar 0) (tCons (tCB (rLn K) (tCons (tVar 2) tNil)) tNil)))))) _ [some (V.ref p), some (V.ref l), some (V.ref Dd), none] H2
      refine ⟨_, rfl, _, rfl, _, rfl, Dd, FF, rfl, .inl (SqL.of hz), p, _, n + xs.length, rfl, hp2, by omega, by omega, Int.lt_trans (show ((FF.length : Nat) : Int) < 100 by omega) (by decide +kernel), fun j H3 j0 j1 hp3 k3 => ?_⟩
      refine ⟨1, j, rfl, rfl, 1 + j, rfl, Dd, FF, rfl, SqL.of (k3 _ _ nD hz), fun q2 hq2 => ?_⟩
      have hs : HT.sIx FF.length FF.length (some (1 + j)) = (1 + j).toNat := by
        have e : (1 + j) = (((1 + j).toNat : Nat) : Int) := by omega
        rw [e, HT.sIx_nat]
        omega
      obtain ⟨o3, ho3⟩ := hp3.there
      have nq2 : q2 ≠ p := fun e => by rw [e, ho3] at hq2; cases hq2
      have fr2 : H q2 = none := by
        cases e : H q2 with
        | none => rfl
        | some o => rw [k3 _ _ nq2 (k2 _ _ nq2 e)] at hq2; cases hq2
      refine k q2 FF _ _ pF ?_ ?_ fr2 upd_same (hp3.new hq2) ((k2.trans k3).trans (Keep.new hq2))
      · unfold cutV
        rw [HT.sIx_none, List.drop_zero]
        exact List.take_sublist _ _
      · unfold cutV
        rw [HT.sIx_none, List.drop_zero, hs, List.length_take]
        omega
end
end Lw
/-! ## PlanC -/
set_option Elab.async false
set_option linter.all false
set_option maxRecDepth 100000
set_option maxHeartbeats 8000000
namespace Sl
open PySem PySem.Spec PyProof.Rows L2
/-- d == {}, whatever d's values -/
def rEqEmp : R2 := fun x y H Q => ∃ (a b : Addr) (ks : List (Key × V)), x = .ref a ∧ y = .ref b ∧ Rd H a (.dK ks) ∧ Rd H b (.dK []) ∧ Q (.bl ks.isEmpty) H
theorem op_eqEmp {X : Cx} (hu : X.A.units < cLine) : OpR X (compareOp .Eq) rEqEmp := by
  intro pins s σ H x y v u Q I rx ry h
  obtain ⟨a, b, ks, rfl, rfl, ea, eb, q⟩ := h
  obtain rfl : v = Value.ref a := rx
  obtain rfl : u = Value.ref b := ry
  obtain ⟨_, ya, va, ra, da⟩ := dk_rd I.hok ea
  obtain ⟨_, yb, vb, rb, db⟩ := dk_rd I.hok eb
  cases rb
  refine PySem.W.keq_eq (knd := mixKind X.prog X.w) (r := true) ya yb da db hu (fun hl => ?_) (fin_bl I q ?_)
  · have : va = [] := List.length_eq_zero_iff.mp hl
    rw [this]
    exact .nil
  · have hl := KV.length ra
    cases ra with
    | nil => rfl
    | cons h t => rfl
end Sl
namespace Lw
open PySem PySem.Spec PyProof.Rows L2 Sl
section
variable {P : Program} {w : World} {K : PySem.W.Frag} {mg : Str → Option Value} {base : Heap} {f : Addr} {fd : FuncData}
/-- turns as they are told: each kind's list -/
abbrev TT' : Type := List (Str × Addr × List Str)
def tkv (t : Str × Addr × List Str) : Key × V := (.inr t.1, .ref t.2.1)
def TurnsAt (H : Hp) (d : Addr) (T : TT') : Prop := H d = some (.dK (T.map tkv)) ∧ (∀ t ∈ T, H t.2.1 = some (.lst (t.2.2.map V.str)))
structure PlanOk (xs : List Str) (T : TT') (B : NI) : Prop where
  tk : (T.map (·.1)).Sublist xs
  ta : (T.map (·.2.1)).Nodup
  tv : ∀ t ∈ T, t.2.2.length ≤ 3 ∧ ∀ z ∈ t.2.2, z ∈ xs
  bk : (ks B).Nodup
  bx : ∀ b ∈ B, b.1 ∈ xs ∧ 1 ≤ b.2 ∧ b.2 ≤ 9
  bl : B.length ≤ 3
def sp_plan (K : PySem.W.Frag) : Sp := fun vs H Q _ => ∃ (p l : Addr) (xs : List Str) (n : Nat), vs = [.ref p, .ref l] ∧ SrcAt H p n ∧ n ≤ 90000 ∧ SqL K H l (xs.map V.str) ∧ l ≠ p ∧ 1 ≤ xs.length ∧ xs.length ≤ 8 ∧ xs.Nodup ∧
  ∀ (t d e : Addr) (T : TT') (B : NI) (H' : Hp), PlanOk xs T B → H t = none → H d = none → H e = none → (∀ u ∈ T, H u.2.1 = none) → d ≠ e → H' t = some (.tup [.ref d, .ref e]) → TurnsAt H' d T → H' e = some (dI B) → SrcAt H' p (n + 100) → Keep p H H' → Q (.ref t) H'
abbrev planN : List Str := ["_law_source_here", "_law_kinds", "_law_turns", "_law_brings", "_law_kind", "_law_k"]
theorem putK_tkv (T : TT') (x : Str) (a : Addr) (ws : List Str) (h : x ∉ T.map (·.1)) : putK (T.map tkv) (.inr x) (.ref a) = (T ++ [(x, a, ws)]).map tkv := by
  unfold putK
  have hn : ((T.map tkv).any fun kv => decide (kv.1 = Sum.inr x)) = false := by
    rw [List.any_eq_false]
    intro kv hk e
    obtain ⟨t, ht, rfl⟩ := List.mem_map.mp hk
    exact h (List.mem_map.mpr ⟨t, ht, Sum.inr.inj (of_decide_eq_true e)⟩)
  rw [hn, if_neg Bool.false_ne_true, List.map_append]
  rfl
theorem gen_of {t U : TS} {D : Ends} {σ : L2.St} {H : Hp} {P : L2.St → Hp → Prop} (h1 : ∀ V : TS, (∀ σ' H', P σ' H' → V D σ' H') → tSeq t V D σ H) (h2 : ∀ σ' H', P σ' H' → U D σ' H') : tSeq t U D σ H := h1 U h2
theorem nxs_of {v : TS} {D D' : Ends} {σ : L2.St} {H : Hp} (h : v D σ H) : ({ D' with nx := v D } : Ends).nx σ H := h
theorem SrcAt.upd_ne' {H : Hp} {p q : Addr} {n : Nat} {o : HO} (h : SrcAt H p n) (ne : q ≠ p) : SrcAt (L2.upd H q o) p n := by
  obtain ⟨g, s, c, e, a⟩ := h
  exact ⟨g, s, c, by rw [upd_ne ne.symm]; exact e, a⟩
theorem SrcAt.keepq {H H' : Hp} {p q : Addr} {n : Nat} (h : SrcAt H p n) (k : Keep q H H') (ne : p ≠ q) : SrcAt H' p n := by
  obtain ⟨g, s, c, e, a⟩ := h
  exact ⟨g, s, c, k _ _ ne e, a⟩
/-- k names picked, a new list of them -/
theorem picks_of {σ : L2.St} {H1 : Hp} {p l D : Addr} {xs : List Str} {m n : Nat} {Qd : Hp → Prop} (h0 : σ[0]? = some (some (.ref p))) (hl' : σ[1]? = some (some (.ref l))) (h5 : 5 < σ.length) (hp : SrcAt H1 p n) (hn : n + m ≤ 100000) (hl : SqL K H1 l (xs.map V.str)) (nl : l ≠ p) (hx1 : 1 ≤ xs.length) (hx : xs.length ≤ 60) (hm : m ≤ 60) (hD : H1 D = none)
    (k : ∀ (ws : List Str) (H' : Hp), ws.length = m → (∀ z ∈ ws, z ∈ xs) → H' D = some (.lst (ws.map V.str)) → SrcAt H' p (n + m) → Keep p H1 H' → Qd H') :
    ∃ W : Nat → Nat → Hp → Prop, (∃ m, W 0 m (upd H1 D (.lst []))) ∧ ∀ i m' H, W i m' H → ((Itr 0 m).stop i H ∧ Qd H) ∨ ((Itr 0 m).go i H ∧ ∃ Nx : Hp → Prop, (∀ H', Nx H' → ∃ m'', m'' < m' ∧ W (i + 1) m'' H') ∧ ∀ x H', (Itr 0 m).yld i H x H' → gName 5 x (wipe σ [5]) H' fun σ2 H2 => wipe σ2 [5] = wipe σ [5] ∧ tYes σ2 H2 fun c H3 =>
        if c = true then tCall (sp_pick K) [] E0 (tCons (tVar 0) (tCons (tVar 1) tNil)) σ2 H3 fun y H4 => ∃ acc, H4 D = some (.lst acc) ∧ acc.length < sizeLine ∧ Nx (upd H4 D (.lst (acc ++ [y]))) else Nx H3) := by
  obtain ⟨po, hpo⟩ := hp.there
  have nD : D ≠ p := fun e => by rw [e, hpo] at hD; cases hD
  refine lc_range (lo := 0) (n := m) (fun i H' => SrcAt H' p (n + i) ∧ Keep p H1 H' ∧ ∃ ws : List Str, ws.length = i ∧ (∀ z ∈ ws, z ∈ xs) ∧ H' D = some (.lst (ws.map V.str))) ⟨hp.new hD, Keep.new hD, [], rfl, fun _ h => absurd h List.not_mem_nil, upd_same⟩ ?_ ?_
  · intro i H' hi ⟨hp1, kp, ws, lw, hw, hz⟩
    have w0 : ∀ x : V, ((wipe σ [5]).set 5 (some x))[0]? = some (some (.ref p)) := fun x => by
      show ((σ.set 5 none).set 5 (some x))[0]? = _
      rw [List.set_set, List.getElem?_set_ne (by decide)]
      exact h0
    have w1 : ∀ x : V, ((wipe σ [5]).set 5 (some x))[1]? = some (some (.ref l)) := fun x => by
      show ((σ.set 5 none).set 5 (some x))[1]? = _
      rw [List.set_set, List.getElem?_set_ne (by decide)]
      exact hl'
    refine ⟨?_, yes_of (iteT ?_)⟩
    · show ((σ.set 5 none).set 5 (some _)).set 5 none = σ.set 5 none
      rw [List.set_set, List.set_set]
    refine ⟨_, w0 _, _, w1 _, p, l, xs.map V.str, n + i, rfl, hp1, by omega, kp.seq nl hl, nl, by rw [List.length_map]; omega, by rw [List.length_map]; omega, fun v H2 mv hp2 k2 => ?_⟩
    obtain ⟨z, mz, rfl⟩ := List.mem_map.mp mv
    refine ⟨_, k2 _ _ nD hz, by rw [List.length_map, sizeLine_eq]; omega, ?_, ?_, ws ++ [z], by rw [List.length_append, lw]; rfl, ?_, ?_⟩
    · obtain ⟨g, sd, cc, e, y⟩ := hp2
      exact ⟨g, sd, cc, by rw [upd_ne nD.symm]; exact e, y⟩
    · intro b o nb e
      have nbD : b ≠ D := fun e2 => by rw [e2, hD] at e; cases e
      rw [upd_ne nbD]
      exact k2 _ _ nb (kp _ _ nb e)
    · intro y hy
      rcases List.mem_append.mp hy with h | h
      · exact hw y h
      · rw [List.mem_singleton.mp h]
        exact mz
    · rw [upd_same, List.map_append]
      rfl
  · intro H' ⟨hp1, kp, ws, lw, hw, hz⟩
    exact k ws H' lw hw hz hp1 kp
theorem strs_of {xs : List Str} : ∀ {vs : List V}, (∀ v ∈ vs, v ∈ xs.map V.str) → vs.Nodup → ∃ us : List Str, vs = us.map V.str ∧ us.Nodup ∧ ∀ u ∈ us, u ∈ xs
  | [], _, _ => ⟨[], rfl, List.nodup_nil, fun _ h => absurd h List.not_mem_nil⟩
  | v :: r, h, hn => by
    obtain ⟨h1, h2⟩ := List.nodup_cons.mp hn
    obtain ⟨us, e, n, hu⟩ := strs_of (fun v hv => h v (List.mem_cons_of_mem _ hv)) h2
    obtain ⟨x, hx, ex⟩ := List.mem_map.mp (h v List.mem_cons_self)
    refine ⟨x :: us, by rw [← ex, e]; rfl, List.nodup_cons.mpr ⟨fun hm => h1 ?_, n⟩, fun u hu' => ?_⟩
    · rw [← ex, e]
      exact List.mem_map.mpr ⟨x, hm, rfl⟩
    · rcases List.mem_cons.mp hu' with h | h
      · rw [h]
        exact hx
      · exact hu u h
theorem nodup_strs : ∀ {xs : List Str}, xs.Nodup → (xs.map V.str).Nodup
  | [], _ => List.nodup_nil
  | x :: r, h => by
    obtain ⟨h1, h2⟩ := List.nodup_cons.mp h
    refine List.nodup_cons.mpr ⟨fun hm => h1 ?_, nodup_strs h2⟩
    obtain ⟨y, hy, e⟩ := List.mem_map.mp hm
    exact V.str.inj e ▸ hy
theorem cutV_takeV (xs : List V) (k : Nat) : cutV xs none (some ((k : Nat) : Int)) = xs.take k := by
  unfold cutV
  rw [HT.sIx_nat, HT.sIx_none, List.drop_zero, Nat.sub_zero]
  rcases Nat.le_total k xs.length with h | h
  · rw [Nat.min_eq_left h]
  · rw [Nat.min_eq_right h, List.take_of_length_le (Nat.le_refl _), List.take_of_length_le h]
theorem ok_plan (F : FnP K "_law_plan" s_l_plan [] f fd) (D : Cal P w K mg base 1 "_law_draw" [] sp_draw) (Pk : Cal P w K mg base 2 "_law_pick" [] (sp_pick K)) (Sb : Cal P w K mg base 2 "_law_subset" [] (sp_subset K)) (So : Cal P w K mg base 3 "_law_some" [] (sp_some K)) (mR : mg "range" = none) :
    FnOk P w K mg base CX0 4 f fd ["_law_source_here", "_law_kinds"] (sp_plan K) := by
  refine F.ok sc_l_plan (fun vs H Q E h => ?_) (fun cdv A outer s H vs Q E hr h => ?_)
  · obtain ⟨p, l, xs, n, rfl, _⟩ := h
    rfl
  · obtain ⟨p, l, xs, n, rfl, hp, hn, hl, nl, h1, hx, hnd, k⟩ := h
    have nd := sc_l_plan.nd
    have hu := hu_of hr
    have hu' := Nat.lt_of_succ_lt hu
    have hr1 := hr.mono (show 1 ≤ 3 by decide)
    have hr2 := hr.mono (show 2 ≤ 3 by decide)
    refine ⟨_, PSs.nox (pss_cons (ps_par (i := 2) (j := 3) (by rfl) nd rfl rfl (by decide) rfl rfl (pa_cons pe_dnewK (pa_cons pe_dnewK pa_nil)) (by rfl))
      (pss_cons (ps_for PassesOwn.never rfl (pi_list (pe_cal Sb hr2 (pa_cons (pv 0) (pa_cons (pv 1) pa_nil)))) (pg_name (i := 4) nd rfl (Or.inl rfl))
        (pss_one (ps_dput hu (pv 2) (pv 4) (pe_lc (own := [("_law_k", 5)]) (g := gName 5) (tt := tYes) rfl nd (pi_range1 (by rfl) mR (pa_cons (pe_ix ix_list (pe_lst (pa_cons pe_int (pa_cons pe_int (pa_cons pe_int (pa_cons pe_int (pa_cons pe_int pa_nil)))))) (pe_cal D hr1 (pa_cons (pv 0) (pa_cons pe_int pa_nil))) (fun _ _ => rfl)) pa_nil))
          (blkOk_by (N := planN) (sc := defScope s_l_plan) (by decide +kernel)) (fun _ _ _ _ _ => pg_name (i := 5) nd rfl (Or.inl rfl)) (fun _ _ _ _ _ => pts_nil) (fun _ _ _ _ _ => pe_cal Pk hr2 (pa_cons (pv 0) (pa_cons (pv 1) pa_nil)))) rfl)))
      (pss_cons (ps_if (PW.pt (pw_or (pt_cmpR (op_eqEmp hu') (pv 2) pe_dnewK (nomark _)) (pw_or1 (pt_cmpR op_eq (pe_cal D hr1 (pa_cons (pv 0) (pa_cons pe_int pa_nil))) pe_int (nomark _)))))
        (pss_one (ps_for PassesOwn.never rfl (pi_list (pe_slice sl_list (pe_cal So hr (pa_cons (pv 0) (pa_cons (pv 1) pa_nil))) po_none (po_some (pe_ix ix_list (pe_lst (pa_cons pe_int (pa_cons pe_int (pa_cons pe_int (pa_cons pe_int (pa_cons pe_int pa_nil)))))) (pe_cal D hr1 (pa_cons (pv 0) (pa_cons pe_int pa_nil))) (fun _ _ => rfl))))) (pg_name (i := 4) nd rfl (Or.inl rfl))
          (pss_one (ps_dput hu (pv 3) (pv 4) (pe_ix ix_list (pe_lst (pa_cons pe_int (pa_cons pe_int (pa_cons pe_int (pa_cons pe_int (pa_cons pe_int pa_nil)))))) (pe_cal D hr1 (pa_cons (pv 0) (pa_cons pe_int pa_nil))) (fun _ _ => rfl)) rfl)))) pss_nil)
      (pss_one (ps_ret (pe_tup (pa_cons (pv 2) (pa_cons (pv 3) pa_nil)))))))), ?_⟩
    obtain ⟨po, hpo⟩ := hp.there
    show tSeq (tPar 2 3 (tCons tDNewK (tCons tDNewK tNil))) _ _ [some (V.ref p), some (V.ref l), none, none, none, none] H
    intro d hd e he
    refine ⟨_, _, rfl, nxs_of ?_⟩
    have ned : e ≠ d := fun x => by rw [x, upd_same] at he; cases he
    have he0 : H e = none := by rwa [upd_ne ned] at he
    have ndp : d ≠ p := fun x => by rw [x, hpo] at hd; cases hd
    have nep : e ≠ p := fun x => by rw [x, hpo] at he0; cases he0
    have hp1 : SrcAt (upd (upd H d (.dK [])) e (.dK [])) p n := (hp.new hd).new he
    have k1 : Keep p H (upd (upd H d (.dK [])) e (.dK [])) := (Keep.new hd).trans (Keep.new he)
    have fd1 : (upd (upd H d (.dK [])) e (.dK [])) d = some (.dK []) := by rw [upd_ne ned.symm, upd_same]
    have fe1 : (upd (upd H d (.dK [])) e (.dK [])) e = some (.dK []) := upd_same
    show tSeq (tFor (iList K (tCall (sp_subset K) [] E0 (tCons (tVar 0) (tCons (tVar 1) tNil)))) (gName 4) _) _ _ [some (V.ref p), some (V.ref l), some (V.ref d), some (V.ref e), none, none] (upd (upd H d (.dK [])) e (.dK []))
    generalize upd (upd H d (.dK [])) e (.dK []) = H1 at hp1 k1 fd1 fe1
    have lm : (xs.map V.str).length = xs.length := List.length_map _
    refine ⟨_, rfl, _, rfl, p, l, xs.map V.str, n, rfl, hp1, by omega, k1.seq nl hl, nl, by omega, fun q zs H2 sz hq hqe hp2 k2 => ⟨q, rfl, ⟨_, SqL.of hqe⟩, ?_⟩⟩
    obtain ⟨ys, sy, ez⟩ := List.sublist_map_iff.mp sz
    subst ez
    have ny : ys.Nodup := sy.nodup hnd
    have ly : ys.length ≤ 8 := Nat.le_trans sy.length_le hx
    obtain ⟨p1o, hp1o⟩ := hp1.there
    have nqp : q ≠ p := fun x => by rw [x, hp1o] at hq; cases hq
    have nqd : q ≠ d := fun x => by rw [x, fd1] at hq; cases hq
    have nqe : q ≠ e := fun x => by rw [x, fe1] at hq; cases hq
    have kk2 := k1.trans k2
    refine for_list (K := K) (a := q) (xs := ys.map V.str) (fun i σ H' => ∃ (y : Option V) (T : TT'), σ = [some (V.ref p), some (V.ref l), some (V.ref d), some (V.ref e), y, none] ∧ T.map (·.1) = ys.take i ∧ (T.map (·.2.1)).Nodup ∧ (∀ t ∈ T, t.2.2.length ≤ 3 ∧ ∀ z ∈ t.2.2, z ∈ xs) ∧ (∀ t ∈ T, H t.2.1 = none) ∧ TurnsAt H' d T ∧ H' e = some (.dK []) ∧ SrcAt H' p (n + 8 + 4 * i) ∧ Keep p H H' ∧ H' q = some (.lst (ys.map V.str)))
      ⟨none, [], rfl, rfl, List.nodup_nil, fun _ h => absurd h List.not_mem_nil, fun _ h => absurd h List.not_mem_nil, ⟨k2 _ _ ndp fd1, fun _ h => absurd h List.not_mem_nil⟩, k2 _ _ nep fe1, hp2.mono (by omega), kk2, hqe⟩ (fun i σ H' _ ⟨_, _, _, _, _, _, _, _, _, _, _, hq'⟩ => SqL.of hq') ?_ ?_
    · intro i x σ H' hx' ⟨y, T, es, hT1, hT2, hT3, hT4, ⟨hTd, hTl⟩, hE, hp3, k3, hq3⟩
      subst es
      rw [List.getElem?_map] at hx'
      obtain ⟨kd, ek, ex⟩ := Option.map_eq_some_iff.mp hx'
      subst ex
      have hi : i < ys.length := (List.getElem?_eq_some_iff.mp ek).1
      refine ⟨(by show 5 ≤ sizeLine; decide), fun a ha => ?_⟩
      obtain ⟨p3o, hp3o⟩ := hp3.there
      have nap : a ≠ p := fun x => by rw [x, hp3o] at ha; cases ha
      refine draw_of rfl (hp3.new ha) (by omega) (by decide) (by decide +kernel) fun j H4 j0 j1 hp4 k4 => ?_
      obtain ⟨v, hv, mv⟩ := at_in (xs := [V.int 0, .int 1, .int 1, .int 2, .int 3]) j0 j1
      have hm : ∃ m : Nat, v = .int (m : Int) ∧ m ≤ 3 := by
        simp only [List.mem_cons, List.not_mem_nil, or_false] at mv
        rcases mv with h | h | h | h | h <;> subst h
        · exact ⟨0, rfl, by decide⟩
        · exact ⟨1, rfl, by decide⟩
        · exact ⟨1, rfl, by decide⟩
        · exact ⟨2, rfl, by decide⟩
        · exact ⟨3, rfl, by decide⟩
      obtain ⟨m, rfl, m3⟩ := hm
      refine ⟨a, _, j, _, rfl, rfl, SqL.of (k4 _ _ nap upd_same), hv, (m : Int), rfl, by omega, by omega, fun Dd hD => ?_⟩
      have k34 : Keep p H' H4 := (Keep.new ha).trans k4
      refine picks_of (K := K) (σ := [some (V.ref p), some (V.ref l), some (V.ref d), some (V.ref e), some (V.str kd), none]) (m := m) rfl rfl (by show 5 < 6; decide) hp4 (by omega) ((k3.trans k34).seq nl hl) nl h1 (by omega) (by omega) hD ?_
      intro ws H5 lw hw hDw hp5 k5
      have k35 := k34.trans k5
      have hTd5 := k35 _ _ ndp hTd
      have tap : ∀ t ∈ T, t.2.1 ≠ p := fun t ht x => by
        have := hT4 t ht
        rw [x, hpo] at this
        cases this
      have fk : kd ∉ T.map (·.1) := by
        rw [hT1]
        intro hm
        have h1 : (ys.take (i + 1)).Nodup := List.Nodup.sublist (List.take_sublist _ _) ny
        rw [List.take_succ, ek, List.nodup_append] at h1
        exact h1.2.2 kd hm kd (List.mem_singleton.mpr rfl) rfl
      have lT : T.length = i := by
        have h2 : (T.map (·.1)).length = T.length := List.length_map _
        rw [← h2, hT1, List.length_take]
        omega
      have nDp : Dd ≠ p := fun x => by
        obtain ⟨o, ho⟩ := hp4.there
        rw [x, ho] at hD
        cases hD
      have frD : H Dd = none := by
        cases ee : H Dd with
        | none => rfl
        | some o => rw [k34 _ _ nDp (k3 _ _ nDp ee)] at hD; cases hD
      have nDd : Dd ≠ d := fun x => by rw [x, hTd5] at hDw; cases hDw
      refine ⟨_, rfl, _, rfl, d, _, rfl, DPut.k (k := .inr kd) hTd5 (by rw [List.length_map, lT, sizeLine_eq]; omega), ?_⟩
      rw [putK_tkv T kd Dd ws fk]
      refine ⟨_, T ++ [(kd, Dd, ws)], rfl, ?_, ?_, ?_, ?_, ⟨upd_same, ?_⟩, ?_, ?_, ?_, ?_⟩
      · rw [List.map_append, hT1, List.take_succ, ek]
        rfl
      · rw [List.map_append]
        refine List.nodup_append.mpr ⟨hT2, by simp, fun u hu v hv e => ?_⟩
        obtain ⟨t, ht, et⟩ := List.mem_map.mp hu
        have h3 := k34 _ _ (tap t ht) (hTl t ht)
        have h4 : v = Dd := List.mem_singleton.mp hv
        rw [et, e, h4, hD] at h3
        cases h3
      · intro t ht
        rcases List.mem_append.mp ht with h | h
        · exact hT3 t h
        · rw [List.mem_singleton.mp h]
          exact ⟨by show ws.length ≤ 3; omega, hw⟩
      · intro t ht
        rcases List.mem_append.mp ht with h | h
        · exact hT4 t h
        · rw [List.mem_singleton.mp h]
          exact frD
      · intro t ht
        rcases List.mem_append.mp ht with h | h
        · have h3 := k35 _ _ (tap t h) (hTl t h)
          have h4 : t.2.1 ≠ d := fun x => by rw [x, hTd5] at h3; cases h3
          rw [upd_ne h4]
          exact h3
        · rw [List.mem_singleton.mp h]
          show (upd H5 d _) Dd = _
          rw [upd_ne nDd]
          exact hDw
      · rw [upd_ne ned]
        exact k35 _ _ nep hE
      · exact Lw.SrcAt.upd_ne' (Sl.SrcAt.mono hp5 (show n + 8 + 4 * i + 1 + m ≤ n + 8 + 4 * (i + 1) by omega)) ndp
      · intro b o nb eb
        have nbd : b ≠ d := fun x => by rw [x, hd] at eb; cases eb
        rw [upd_ne nbd]
        exact k35 _ _ nb (k3 _ _ nb eb)
      · rw [upd_ne nqd]
        exact k35 _ _ nqp hq3
    · intro σ H' ⟨y, T, es, hT1, hT2, hT3, hT4, ⟨hTd, hTl⟩, hE, hp3, k3, hq3⟩
      subst es
      rw [List.length_map] at hT1 hp3
      rw [List.take_length] at hT1
      have hp4 : SrcAt H' p (n + 60) := hp3.mono (by omega)
      have oT : ∀ B : NI, (ks B).Nodup → (∀ b ∈ B, b.1 ∈ xs ∧ 1 ≤ b.2 ∧ b.2 ≤ 9) → B.length ≤ 3 → PlanOk xs T B := fun B h1 h2 h3 => ⟨by rw [hT1]; exact sy, hT2, hT3, h1, h2, h3⟩
      have tap : ∀ t ∈ T, t.2.1 ≠ p := fun t ht x => by
        have := hT4 t ht
        rw [x, hpo] at this
        cases this
      show tSeq (tIfS (tOr (tTest (tOp rEqEmp (tVar 2) tDNewK)) (tTest (tOp rEq (tCall sp_draw [] E0 (tCons (tVar 0) (tCons (tC (.int 3)) tNil))) (tC (.int 0))))) _ _) _ _ [some (V.ref p), some (V.ref l), some (V.ref d), some (V.ref e), y, none] H'
      refine gen_of (P := fun σ' Hz => ∃ (y : Option V) (B : NI), σ' = [some (V.ref p), some (V.ref l), some (V.ref d), some (V.ref e), y, none] ∧ (ks B).Nodup ∧ (∀ b ∈ B, b.1 ∈ xs ∧ 1 ≤ b.2 ∧ b.2 ≤ 9) ∧ B.length ≤ 3 ∧ TurnsAt Hz d T ∧ Hz e = some (dI B) ∧ SrcAt Hz p (n + 100) ∧ Keep p H Hz) (fun Z hZ => ?_) (fun σ' Hz hP => ?_)
      · have thenB : ∀ (Hy : Hp) (D : Ends), Keep p H' Hy → SrcAt Hy p (n + 61) → (∀ σ' Hz, (∃ (y : Option V) (B : NI), σ' = [some (V.ref p), some (V.ref l), some (V.ref d), some (V.ref e), y, none] ∧ (ks B).Nodup ∧ (∀ b ∈ B, b.1 ∈ xs ∧ 1 ≤ b.2 ∧ b.2 ≤ 9) ∧ B.length ≤ 3 ∧ TurnsAt Hz d T ∧ Hz e = some (dI B) ∧ SrcAt Hz p (n + 100) ∧ Keep p H Hz) → D.nx σ' Hz) →
            tFor (iList K (tSl (rSlL K) (tCall (sp_some K) [] E0 (tCons (tVar 0) (tCons (tVar 1) tNil))) tNoPart (tPart (tOp (rIxL K) (tLst (tCons (tC (.int 1)) (tCons (tC (.int 1)) (tCons (tC (.int 1)) (tCons (tC (.int 2)) (tCons (tC (.int 3)) tNil)))))) (tCall sp_draw [] E0 (tCons (tVar 0) (tCons (tC (.int 5)) tNil))))))) (gName 4)
              (sDPut (tVar 3) (tVar 4) (tOp (rIxL K) (tLst (tCons (tC (.int 1)) (tCons (tC (.int 1)) (tCons (tC (.int 2)) (tCons (tC (.int 3)) (tCons (tC (.int 9)) tNil)))))) (tCall sp_draw [] E0 (tCons (tVar 0) (tCons (tC (.int 5)) tNil))))) D [some (V.ref p), some (V.ref l), some (V.ref d), some (V.ref e), y, none] Hy := by
          intro Hy D ky hpy hN
          refine ⟨_, rfl, _, rfl, p, l, xs.map V.str, n + 61, rfl, hpy, by omega, (k3.trans ky).seq nl hl, nl, by omega, by omega, fun q2 FF zs H2 pF szF lz hq2 hq2e hp6 k6 => ?_⟩
          obtain ⟨oy, hoy⟩ := hpy.there
          have nq2 : q2 ≠ p := fun x => by rw [x, hoy] at hq2; cases hq2
          refine ⟨(by show 5 ≤ sizeLine; decide), fun a ha => ?_⟩
          obtain ⟨o6, ho6⟩ := hp6.there
          have nap : a ≠ p := fun x => by rw [x, ho6] at ha; cases ha
          refine draw_of rfl (hp6.new ha) (by omega) (by decide) (by decide +kernel) fun j H3 j0 j1 hp7 k7 => ?_
          obtain ⟨v, hv, mv⟩ := at_in (xs := [V.int 1, .int 1, .int 1, .int 2, .int 3]) j0 j1
          have hm : ∃ m : Nat, v = .int (m : Int) ∧ m ≤ 3 := by
            simp only [List.mem_cons, List.not_mem_nil, or_false] at mv
            rcases mv with h | h | h | h | h <;> subst h
            · exact ⟨1, rfl, by decide⟩
            · exact ⟨1, rfl, by decide⟩
            · exact ⟨1, rfl, by decide⟩
            · exact ⟨2, rfl, by decide⟩
            · exact ⟨3, rfl, by decide⟩
          obtain ⟨m, rfl, m3⟩ := hm
          have k37 : Keep p H2 H3 := (Keep.new ha).trans k7
          refine ⟨a, _, j, _, rfl, rfl, SqL.of (k7 _ _ nap upd_same), hv, _, rfl, q2, zs, rfl, SqL.of (k37 _ _ nq2 hq2e), fun b hb => ?_⟩
          rw [cutV_takeV]
          obtain ⟨us, eu, nu, hu⟩ := strs_of (xs := xs) (vs := zs.take m) (fun v hv => pF.mem_iff.mp (szF.subset (List.mem_of_mem_take hv))) (List.Nodup.sublist (List.take_sublist _ _) (szF.nodup (pF.nodup_iff.mpr (nodup_strs hnd))))
          have lu : us.length ≤ 3 := by
            have := congrArg List.length eu
            rw [List.length_map, List.length_take] at this
            omega
          rw [eu]
          refine ⟨b, rfl, ⟨_, SqL.of upd_same⟩, ?_⟩
          obtain ⟨o7, ho7⟩ := hp7.there
          have nbp : b ≠ p := fun x => by rw [x, ho7] at hb; cases hb
          have kb : Keep p H' (upd H3 b (.lst (us.map V.str))) := (ky.trans (k6.trans k37)).trans (Keep.new hb)
          have hd3 := (ky.trans (k6.trans k37)) _ _ ndp hTd
          have he3 := (ky.trans (k6.trans k37)) _ _ nep hE
          have nbd : b ≠ d := fun x => by rw [x, hd3] at hb; cases hb
          have nbe : b ≠ e := fun x => by rw [x, he3] at hb; cases hb
          have ub : (upd H3 b (.lst (us.map V.str))) b = some (.lst (us.map V.str)) := upd_same
          have hpb : SrcAt (upd H3 b (.lst (us.map V.str))) p (n + 80) := (hp7.new hb).mono (by omega)
          generalize upd H3 b (.lst (us.map V.str)) = H4 at kb ub hpb
          refine for_list (K := K) (a := b) (xs := us.map V.str) (fun i σ Hi => ∃ (y : Option V) (B : NI), σ = [some (V.ref p), some (V.ref l), some (V.ref d), some (V.ref e), y, none] ∧ ks B = us.take i ∧ (∀ r ∈ B, 1 ≤ r.2 ∧ r.2 ≤ 9) ∧ Hi e = some (dI B) ∧ SrcAt Hi p (n + 80 + i) ∧ (∀ c o, c ≠ p → c ≠ e → H4 c = some o → Hi c = some o))
            ⟨y, [], rfl, rfl, fun _ h => absurd h List.not_mem_nil, kb _ _ nep hE, hpb, fun c o _ _ h => h⟩ (fun i σ Hi _ ⟨_, _, _, _, _, _, _, kk⟩ => SqL.of (kk _ _ nbp nbe ub)) ?_ ?_
          · intro i x σ Hi hx' ⟨yy, B, es, hB, hBv, hBe, hpi, kk⟩
            subst es
            rw [List.getElem?_map] at hx'
            obtain ⟨kd, ek, ex⟩ := Option.map_eq_some_iff.mp hx'
            subst ex
            have hi : i < us.length := (List.getElem?_eq_some_iff.mp ek).1
            refine ⟨(by show 5 ≤ sizeLine; decide), fun a2 ha2 => ?_⟩
            obtain ⟨oi, hoi⟩ := hpi.there
            have nap2 : a2 ≠ p := fun x => by rw [x, hoi] at ha2; cases ha2
            refine draw_of rfl (hpi.new ha2) (by omega) (by decide) (by decide +kernel) fun j2 H5 j20 j21 hp8 k8 => ?_
            obtain ⟨v2, hv2, mv2⟩ := at_in (xs := [V.int 1, .int 1, .int 2, .int 3, .int 9]) j20 j21
            have hm2 : ∃ m : Int, v2 = .int m ∧ 1 ≤ m ∧ m ≤ 9 := by
              simp only [List.mem_cons, List.not_mem_nil, or_false] at mv2
              rcases mv2 with h | h | h | h | h <;> subst h
              · exact ⟨1, rfl, by decide, by decide⟩
              · exact ⟨1, rfl, by decide, by decide⟩
              · exact ⟨2, rfl, by decide, by decide⟩
              · exact ⟨3, rfl, by decide, by decide⟩
              · exact ⟨9, rfl, by decide, by decide⟩
            obtain ⟨m2, rfl, m21, m29⟩ := hm2
            have k58 : Keep p Hi H5 := (Keep.new ha2).trans k8
            have he5 := k58 _ _ nep hBe
            have fk : kd ∉ ks B := by
              rw [hB]
              intro hm
              have h1 : (us.take (i + 1)).Nodup := List.Nodup.sublist (List.take_sublist _ _) nu
              rw [List.take_succ, ek, List.nodup_append] at h1
              exact h1.2.2 kd hm kd (List.mem_singleton.mpr rfl) rfl
            have lB : B.length = i := by
              have h2 : (ks B).length = B.length := by unfold ks; rw [List.length_map]
              rw [← h2, hB, List.length_take]
              omega
            refine ⟨a2, _, j2, _, rfl, rfl, SqL.of (k8 _ _ nap2 upd_same), hv2, _, rfl, _, rfl, e, _, rfl, DPut.k (k := .inr kd) he5 (by rw [List.length_map, lB, sizeLine_eq]; omega), ?_⟩
            rw [putK_new B kd m2 fk]
            refine ⟨_, B ++ [(kd, m2)], rfl, ?_, ?_, upd_same, ?_, ?_⟩
            · unfold ks at hB ⊢
              rw [List.map_append, hB, List.take_succ, ek]
              rfl
            · intro r hr
              rcases List.mem_append.mp hr with h | h
              · exact hBv r h
              · rw [List.mem_singleton.mp h]
                exact ⟨m21, m29⟩
            · exact Lw.SrcAt.upd_ne' (Sl.SrcAt.mono hp8 (by omega)) nep
            · intro c o nc ne' hc
              rw [upd_ne ne']
              exact k58 _ _ nc (kk _ _ nc ne' hc)
          · intro σ Hi ⟨yy, B, es, hB, hBv, hBe, hpi, kk⟩
            subst es
            rw [List.length_map] at hB hpi
            rw [List.take_length] at hB
            have lB : B.length ≤ 3 := by
              have h2 : (ks B).length = B.length := by unfold ks; rw [List.length_map]
              rw [← h2, hB]
              exact lu
            refine hN _ _ ⟨yy, B, rfl, by rw [hB]; exact nu, fun r hr => ⟨hu _ (by rw [← hB]; exact List.mem_map.mpr ⟨r, hr, rfl⟩), hBv r hr⟩, lB, ⟨kk _ _ ndp ned.symm (kb _ _ ndp hTd), fun t ht => ?_⟩, hBe, hpi.mono (by omega), fun c o nc hc => ?_⟩
            · have h3 := hTl t ht
              exact kk _ _ (tap t ht) (fun x => by rw [x, hE] at h3; cases h3) (kb _ _ (tap t ht) h3)
            · exact kk _ _ nc (fun x => by rw [x, he0] at hc; cases hc) (kb _ _ nc (k3 _ _ nc hc))
        have fin : ∀ (Hy : Hp), Keep p H' Hy → SrcAt Hy p (n + 61) → ∃ (y : Option V) (B : NI), [some (V.ref p), some (V.ref l), some (V.ref d), some (V.ref e), y, none] = [some (V.ref p), some (V.ref l), some (V.ref d), some (V.ref e), y, none] ∧ (ks B).Nodup ∧ (∀ b ∈ B, b.1 ∈ xs ∧ 1 ≤ b.2 ∧ b.2 ≤ 9) ∧ B.length ≤ 3 ∧ TurnsAt Hy d T ∧ Hy e = some (dI B) ∧ SrcAt Hy p (n + 100) ∧ Keep p H Hy := fun Hy ky hpy =>
          ⟨y, [], rfl, List.nodup_nil, fun _ h => absurd h List.not_mem_nil, by decide, ⟨ky _ _ ndp hTd, fun t ht => ky _ _ (tap t ht) (hTl t ht)⟩, ky _ _ nep hE, hpy.mono (by omega), k3.trans ky⟩
        refine ifs_of (or_of (test_of ⟨_, rfl, fun z hz => ⟨d, z, T.map tkv, rfl, rfl, .inl (same_new hz _ _ hTd), .inl upd_same, _, rfl, ite_of (fun _ => iteT ?_) (fun _ => ?_)⟩⟩))
        · exact thenB _ _ (Keep.new hz) ((hp4.new hz).mono (by omega)) (fun σ' Hz h => hZ σ' Hz h)
        · refine test_of (draw_of rfl (hp4.new hz) (by omega) (by decide) (by decide +kernel) fun j H4 j0 j1 hp5 k5 => ⟨rfl, _, rfl, ite_of (fun _ => ?_) (fun _ => nx_of (hZ _ _ ?_))⟩)
          · exact thenB _ _ ((Keep.new hz).trans k5) (hp5.mono (by omega)) (fun σ' Hz h => hZ σ' Hz h)
          · obtain ⟨y2, B2, _, rest⟩ := fin H4 ((Keep.new hz).trans k5) (hp5.mono (by omega))
            exact ⟨y, B2, rfl, rest⟩
      · obtain ⟨y', B, es, hB1, hB2, hB3, ⟨hTz, hTlz⟩, hez, hpz, kz⟩ := hP
        subst es
        refine ⟨_, rfl, _, rfl, (by show 2 ≤ sizeLine; decide), fun t ht => ?_⟩
        obtain ⟨oz, hoz⟩ := hpz.there
        have ntp : t ≠ p := fun x => by rw [x, hoz] at ht; cases ht
        have frt : H t = none := by
          cases ee : H t with
          | none => rfl
          | some o => rw [kz _ _ ntp ee] at ht; cases ht
        exact k t d e T B _ (oT B hB1 hB2 hB3) frt hd he0 hT4 ned.symm upd_same ⟨same_new ht _ _ hTz, fun u hu => same_new ht _ _ (hTlz u hu)⟩ (same_new ht _ _ hez) (hpz.new ht) (kz.trans (Keep.new ht))
end
end Lw
/-! ## SlSort -/
set_option Elab.async false
set_option linter.all false
set_option maxRecDepth 100000
set_option maxHeartbeats 4000000
/-! sorted(xs), xs a list of tuples (text, anything), no two texts alike -/
namespace Sl
open PySem PySem.Spec PyProof.Rows L2 SrtO
def IsSP (h : Heap) (v : Value) (x : Str) : Prop := ∃ a o t u n, v = .ref a ∧ h.get? a = some o ∧ o.cls = .type "tuple" ∧ o.data = .seq #[.str x t, u] n
theorem IsSP.keeps {h h' : Heap} {v : Value} {x : Str} (p : IsSP h v x) (k : ∀ b o, h.get? b = some o → o.cls = .type "tuple" → h'.get? b = some o) : IsSP h' v x := by
  obtain ⟨a, o, t, u, n, e, ho, hc, hd⟩ := p
  exact ⟨a, o, t, u, n, e, k _ _ ho hc, hc, hd⟩
def ltk {α : Type} (k : α → Str) (v u : α) : Bool := decide ((k v).cps.toList < (k u).cps.toList)
theorem ltk_swo {α : Type} (k : α → Str) : Swo (ltk k) := by
  refine ⟨fun x y h => ?_, fun x y z h1 h2 => ?_⟩
  · exact decide_eq_false fun h' => List.lt_irrefl _ (List.lt_trans (of_decide_eq_true h) h')
  · have a := of_decide_eq_false h1
    have b := of_decide_eq_false h2
    exact decide_eq_false (show ¬ _ from List.le_trans (show ¬ _ from a) (show ¬ _ from b))
section
variable {prog : Program} {w : World} {A : Around} {E : Value → Shared → Prop} {s : Shared}
theorem sp_firsts {h : Heap} {k : Value → Str} : ∀ {vs : List Value}, (∀ v ∈ vs, IsSP h v (k v)) → ∃ fs : List Value, PySem.W.KatTups h vs fs ∧ fs.length = vs.length ∧ ∀ f ∈ fs, ∃ x t, f = Value.str x t
  | [], _ => ⟨[], PySem.W.KatTups.nil, rfl, fun _ hm => by simp at hm⟩
  | v :: vs, hp => by
    obtain ⟨fs, h1, h2, h3⟩ := sp_firsts (vs := vs) fun v' hm => hp v' (List.mem_cons_of_mem _ hm)
    obtain ⟨a, o, t, u, n, e, ho, hc, hd⟩ := hp v (List.mem_cons_self ..)
    have e0 := e
    subst e
    refine ⟨.str (k (.ref a)) t :: fs, PySem.W.KatTups.cons ho hc hd rfl h1, by rw [List.length_cons, List.length_cons, h2], fun f hm => ?_⟩
    rcases List.mem_cons.mp hm with rfl | hm
    · exact ⟨_, t, rfl⟩
    · exact h3 f hm
theorem sp_cmp {vs : List Value} {k : Value → Str} (hp : ∀ v ∈ vs, IsSP s.heap v (k v)) (inj : ∀ v ∈ vs, ∀ u ∈ vs, k v = k u → v = u) : Cmp prog w A s (tuples' true) (fun p => p.1 ∈ vs) (lt2 (ltk k)) := by
  intro p q hm hm'
  have h1 := hp _ hm
  have h2 := hp _ hm'
  have hij := inj _ hm _ hm'
  show wpAny (model prog w) A (keyLt' (tuples' true) p.1 q.1) (fun r s' => s' = s ∧ r = ltk k p.1 q.1) (fun _ _ => False) s
  unfold ltk
  generalize k p.1 = x at h1 hij ⊢
  generalize k q.1 = x' at h2 hij ⊢
  obtain ⟨a, o, t, u, n, e, ho, hc, hd⟩ := h1
  obtain ⟨a', o', t', u', n', e', ho', hc', hd'⟩ := h2
  rw [e, e'] at hij
  rw [e, e']
  refine PySem.W.kat_lt ho hd ho' hd' ?_
  show PySem.W.KatLex prog w A true (decide (2 < 2)) _ [(.str x t, .str x' t'), (u, u')] 0 s
  refine PySem.W.kat_cons (SeqAt.EqAt.str_str x t x' t' prog w _ _ ?_)
  refine PySem.W.kat_go (fun e1 => ?_) (fun e1 => ?_)
  · have ex : x = x' := by simpa using e1
    have ea := Value.ref.inj (hij ex)
    subst ea
    rw [ho] at ho'
    cases Option.some.inj ho'
    rw [hd] at hd'
    have hu : u = u' := by
      injection hd' with h3 h4
      have h5 := congrArg Array.toList h3
      simp at h5
      exact h5.2
    subst hu
    refine PySem.W.kat_yes (PySem.W.kat_cons (SeqAt.EqAt.same u prog w _ _ ?_))
    refine PySem.W.kat_go (fun e2 => ?_) (fun e2 => by cases e2)
    refine PySem.W.kat_yes (PySem.W.kat_nil ⟨rfl, ?_⟩)
    rw [ex]
    exact (decide_eq_false (List.lt_irrefl _)).symm
  · exact PySem.W.kat_no (oneLt_str ⟨rfl, rfl⟩)
theorem sp_sortable {a : Addr} {vs : List Value} {k : Value → Str} (h0 : 0 < vs.length) (hp : ∀ v ∈ vs, IsSP s.heap v (k v)) (inj : ∀ v ∈ vs, ∀ u ∈ vs, k v = k u → v = u) (ha : ∀ o, s.heap.get? a = some o → o.cls ≠ .type "tuple") : SortableO prog w A s a vs (ltk k) := by
  intro h' keep
  have hp' : ∀ v ∈ vs, IsSP h' v (k v) := fun v hm => (hp v hm).keeps fun b o e c => keep b o (fun z => by subst z; exact ha o e c) e
  obtain ⟨fs, h1, h2, h3⟩ := sp_firsts hp'
  refine ⟨tuples' true, fun Q E hq => ?_, sp_cmp hp' inj⟩
  refine PySem.W.kat_kind (T := .type "str") h1 (by omega) (fun f hm => ?_) (by rfl) ?_
  · obtain ⟨x, t, rfl⟩ := h3 f hm
    exact PySem.W.Looks.now
  · have e : (Value.type "str" != Value.type "tuple") = true := by first | decide +kernel | rfl | decide
    rw [e]
    exact hq
theorem sp_sorted {l : Addr} {vs : List Value} {k : Value → Str} {Q : Value → Shared → Prop} (hl : s.heap.IsList l vs.toArray) (hz : vs.length ≤ sizeLine) (hp : ∀ v ∈ vs, IsSP s.heap v (k v)) (inj : ∀ v ∈ vs, ∀ u ∈ vs, k v = k u → v = u)
    (h : ∀ (h' : Heap) (d : Addr) (out : List Value), Srtd (ltk k) out → Stb (ltk k) out vs → (∀ b o, s.heap.get? b = some o → h'.get? b = some o) → s.heap.objs.size ≤ d → (∃ n, h'.get? d = some (seqObj "list" out.toArray n)) → Q (.ref d) { s with heap := h' }) :
    wpAny (model prog w) A (call (.builtin "sorted") [.ref l]) Q E s := by
  refine sorted_ord (ltk_swo k) hl hz (fun h2 h₁ a ha kk => ?_) fun out hs hb => ?_
  · refine sp_sortable (s := { s with heap := h₁ }) (by omega) (fun v hm => (hp v hm).keeps fun b o e _ => (kk b o e).2) inj fun o e => ?_
    have e' : some o = some (seqObj "list" vs.toArray 0) := e.symm.trans ha
    cases e'
    intro c
    exact absurd (Value.type.inj c) (by decide)
  · exact h _ _ out hs hb (fun b o e => sortedAll_old e) (Nat.le_succ _) (sortedAll_at s.heap vs out.toArray)
end
/-- sorted(xs), xs tuples of a text and something, no two texts alike: a new list, sorted by the texts -/
def rSortedSP (K : PySem.W.Frag) : List V → Hp → VK → Prop := fun vs H Q => ∃ (a : Addr) (xs : List V) (k : V → Str), vs = [V.ref a] ∧ SqL K H a xs ∧ (∀ x ∈ xs, ∃ t v, x = V.ref t ∧ H t = some (.tup [.str (k x), v])) ∧ (∀ x ∈ xs, ∀ y ∈ xs, k x = k y → x = y) ∧
  ∀ ys p, Srtd (ltk k) ys → ys.Perm xs → H p = none → Q (.ref p) (upd H p (.lst ys))
section
variable {X : Cx}
theorem cr_sortedSP : CallR X (.builtin "sorted") (rSortedSP X.K) := by
  intro pins s σ H vs us Q I r h
  obtain ⟨a, xs, k, rfl, hs, hx, hi, q⟩ := h
  obtain ⟨its, rv, hl, hz⟩ := I.list hs
  obtain ⟨u, rfl, ru⟩ := vals1 r
  obtain rfl : u = Value.ref a := ru
  obtain ⟨e1, e2⟩ := refs_back rv fun x m => by
    obtain ⟨t, v, e, _⟩ := hx x m
    exact ⟨t, e⟩
  have mem : ∀ v ∈ its, backV v ∈ xs := fun v hv => by
    rw [e1]
    exact List.mem_map.mpr ⟨_, hv, rfl⟩
  have inj : ∀ v ∈ its, ∀ u ∈ its, k (backV v) = k (backV u) → v = u := fun v hv u hu e => by
    have := hi _ (mem v hv) _ (mem u hu) e
    obtain ⟨t1, rfl⟩ := e2 v hv
    obtain ⟨t2, rfl⟩ := e2 u hu
    exact congrArg Value.ref (V.ref.inj this)
  refine sp_sorted (k := fun u => k (backV u)) hl.isList (by rw [← rv.length]; exact hz) (fun v hv => ?_) inj fun h' d out h1 h2 kp hd hn => ?_
  · obtain ⟨t, rfl⟩ := e2 v hv
    obtain ⟨t', v', e, ht⟩ := hx _ (mem _ hv)
    cases e
    obtain ⟨_, its2, r2, o, ho, hc, n, hd⟩ := I.hok _ _ ht
    obtain ⟨u1, u2, rfl, ri, rj⟩ := vals2 r2
    obtain ⟨t1, rfl⟩ := ri
    exact ⟨t, o, t1, u2, n, rfl, ho, hc, hd⟩
  · have h3 : ∀ u ∈ out, ∃ a, u = Value.ref a := fun u hu => e2 u (h2.perm.mem_iff.mp hu)
    obtain ⟨n, hn⟩ := hn
    have hb : (out.map backV).Perm xs := by
      rw [e1]
      exact h2.perm.map backV
    refine ⟨.ref d, upd H d (.lst (out.map backV)), I.laid (t' := s.toks) kp hd ⟨?_, out, n, vals_back h3, hn⟩, rfl, q _ d (srtd_map h1) hb (I.hok.fresh hd)⟩
    rw [hb.length_eq]
    exact hz
end
end Sl
/-! ## CnM -/
set_option Elab.async false
set_option linter.all false
set_option maxRecDepth 100000
set_option maxHeartbeats 4000000
namespace Sl
open PySem PySem.Spec PyProof.Rows L2
/-- names in order, none of them nought -/
structure Cn (A : NI) : Prop where
  so : (ks A).Pairwise leS
  nz : noZ A
  nd : (ks A).Nodup
theorem val_of {A : NI} (n : (ks A).Nodup) {q : Str × Int} (h : q ∈ A) : get0 A q.1 = q.2 := by
  unfold get0
  rw [get?_of n (show (q.1, q.2) ∈ A from h)]
  rfl
theorem eq_map_get {A : NI} (h : (ks A).Nodup) : A = (ks A).map fun x => (x, get0 A x) := by
  unfold ks
  rw [List.map_map]
  have : ∀ q ∈ A, ((fun x => (x, get0 A x)) ∘ fun p : Str × Int => p.1) q = q := fun q hq => by
    show (q.1, get0 A q.1) = q
    rw [val_of h hq]
  conv => lhs; rw [← List.map_id A]
  exact List.map_congr_left fun q hq => (this q hq).symm
theorem cn_eq {A B : NI} (ha : Cn A) (hb : Cn B) (h : ∀ x, get0 A x = get0 B x) : A = B := by
  have p := ks_perm (perm_of_get0 ha.nd hb.nd ha.nz hb.nz h)
  have e : ks A = ks B := perm_unique leS_anti p ha.so hb.so
  rw [eq_map_get ha.nd, eq_map_get hb.nd, e]
  exact List.map_congr_left fun x _ => by rw [h]
def lessL (N : NI) (ys : List Str) : NI := (ys.filter fun x => decide (get0 N x ≠ 0)).map fun x => (x, get0 N x)
theorem ks_lessL (N : NI) (ys : List Str) : ks (lessL N ys) = ys.filter fun x => decide (get0 N x ≠ 0) := ks_map _ _
theorem lessL_cn {N : NI} {ys : List Str} (hn : (ks N).Nodup) (pm : ys.Perm (ks N)) (so : sortedS ys = true) : Cn (lessL N ys) := by
  refine ⟨?_, ?_, ?_⟩
  · rw [ks_lessL]
    exact (sorted_pairwise so).filter _
  · intro q hq
    obtain ⟨x, hx, e⟩ := List.mem_map.mp hq
    subst e
    simpa using (List.mem_filter.mp hx).2
  · rw [ks_lessL]
    exact List.Nodup.sublist List.filter_sublist (pm.nodup_iff.mpr hn)
theorem lessL_get {N : NI} {ys : List Str} (hn : (ks N).Nodup) (pm : ys.Perm (ks N)) (x : Str) : get0 (lessL N ys) x = get0 N x := by
  unfold lessL
  rw [get0_map (List.Nodup.sublist List.filter_sublist (pm.nodup_iff.mpr hn))]
  split
  · rfl
  · rename_i h
    by_cases hx : x ∈ ks N
    · by_cases h0 : get0 N x = 0
      · exact h0.symm
      · exact absurd (List.mem_filter.mpr ⟨pm.mem_iff.mpr hx, by simpa using h0⟩) h
    · exact (get0_none hx).symm
theorem lessL_sub {N : NI} {ys : List Str} (pm : ys.Perm (ks N)) {x : Str} (h : x ∈ ks (lessL N ys)) : x ∈ ks N := by
  rw [ks_lessL] at h
  exact pm.mem_iff.mp (List.mem_filter.mp h).1
theorem ks_len (A : NI) : (ks A).length = A.length := by
  unfold ks
  rw [List.length_map]
theorem lessL_len {N : NI} {ys : List Str} (pm : ys.Perm (ks N)) : (lessL N ys).length ≤ N.length := by
  rw [← ks_len, ks_lessL]
  have := List.length_filter_le (fun x => decide (get0 N x ≠ 0)) ys
  rw [pm.length_eq, ks_len] at this
  exact this
theorem cn_nil : Cn [] := ⟨List.Pairwise.nil, fun _ h => absurd h List.not_mem_nil, List.nodup_nil⟩
/-- the dict as it grows, turn by turn -/
theorem lessL_take {N : NI} {ys : List Str} {i : Nat} {x : Str} (h : ys[i]? = some x) : lessL N (ys.take (i + 1)) = lessL N (ys.take i) ++ (if get0 N x ≠ 0 then [(x, get0 N x)] else []) := by
  unfold lessL
  rw [List.take_succ, h, List.filter_append, List.map_append]
  congr 1
  show List.map _ ([x].filter _) = _
  by_cases h0 : get0 N x = 0
  · rw [List.filter_cons_of_neg (by simpa using h0), if_neg (by simpa using h0)]
    rfl
  · rw [List.filter_cons_of_pos (by simpa using h0), if_pos h0]
    rfl
theorem get?_in {M : NI} {x : Str} (h : x ∈ ks M) : get? M x = some (get0 M x) := by
  unfold get0
  cases e : get? M x with
  | none => exact absurd h (get?_none.mp e)
  | some i => rfl
/-- values below 2 ^ b -/
def bd (b : Nat) (A : NI) : Prop := ∀ x, (get0 A x).natAbs < 2 ^ b
theorem eqI_cn {A B : NI} (ha : Cn A) (hb : Cn B) : eqI A B = true ↔ ∀ x, get0 A x = get0 B x := by
  rw [eqI_iff ha.nd hb.nd]
  constructor
  · intro h x
    unfold get0
    rw [h x]
  · intro h x
    rw [cn_eq ha hb h]
/-- a word that may stand in a form -/
def nameIn (z : Str) : Str := if Txt.startswith z "old." || Txt.startswith z "new." then cutS z (some 4) none else z
def wordB (z : Str) : Bool := nameB (nameIn z)
theorem starts_eq (x y : Str) : Txt.startswith x y = (decide (y.length ≤ x.length) && (x.cps.toList.take y.length == y.cps.toList)) := by
  unfold Txt.startswith
  rw [StrLaws.subAt_eq, List.drop_zero, Nat.zero_add]
theorem starts_mem {x y : Str} (h : Txt.startswith x y = true) {c : Nat} (hc : c ∈ y.cps.toList) : c ∈ x.cps.toList := by
  rw [starts_eq] at h
  have h2 := (Bool.and_eq_true_iff.mp h).2
  rw [← eq_of_beq h2] at hc
  exact List.mem_of_mem_take hc
theorem name_nodot {z : Str} (h : nameB z = true) {y : Str} (hy : (46 : Nat) ∈ y.cps.toList) : Txt.startswith z y = false := by
  cases e : Txt.startswith z y with
  | false => rfl
  | true =>
    have := nameB_all h 46 (starts_mem e hy)
    exact absurd this (by decide +kernel)
theorem nameIn_name {z : Str} (h : nameB z = true) : nameIn z = z := by
  unfold nameIn
  rw [name_nodot h (show (46 : Nat) ∈ ("old." : Str).cps.toList by decide +kernel), name_nodot h (show (46 : Nat) ∈ ("new." : Str).cps.toList by decide +kernel)]
  rfl
theorem tl_cut4 {z : Str} : TL.tl (cutS z (some 4) none) = (TL.tl z).drop 4 := by
  have e1 : HT.sIx z.length 0 (some 4) = min 4 z.length := HT.sIx_nat ..
  have e2 : HT.sIx z.length z.length none = z.length := rfl
  show ((z.cps.toList.drop (HT.sIx z.length 0 (some 4))).take (HT.sIx z.length z.length none - HT.sIx z.length 0 (some 4))).toArray.toList = _
  rw [e1, e2]
  have l := TL.len_tl z
  show List.take (z.length - min 4 z.length) (List.drop (min 4 z.length) (TL.tl z)) = _
  rcases Nat.le_total 4 z.length with h | h
  · rw [Nat.min_eq_left h, List.take_of_length_le]
    rw [List.length_drop]
    omega
  · rw [Nat.min_eq_right h, List.drop_of_length_le (by omega), List.drop_of_length_le (by omega), List.take_nil]
theorem starts_self (a y : Str) : Txt.startswith (a ++ y) a = true := by
  rw [starts_eq]
  have e : (a ++ y).cps.toList = a.cps.toList ++ y.cps.toList := tl_app a y
  have la : a.cps.toList.length = a.length := Array.length_toList
  rw [e, ← la, List.take_left, beq_self_eq_true, Bool.and_true]
  exact decide_eq_true (by rw [PySem.Str.length_append]; omega)
theorem nameIn_lot (a y : Str) (ha : a = "old." ∨ a = "new.") : nameIn (a ++ y) = y := by
  have h : (Txt.startswith (a ++ y) "old." || Txt.startswith (a ++ y) "new.") = true := by
    rcases ha with e | e <;> subst e
    · rw [starts_self, Bool.true_or]
    · rw [starts_self, Bool.or_true]
  unfold nameIn
  rw [if_pos h]
  refine TL.ext_tl ?_
  rw [tl_cut4, tl_app]
  have l4 : (TL.tl a).length = 4 := by rcases ha with e | e <;> subst e <;> decide +kernel
  rw [← l4, List.drop_left]
theorem word_name {z : Str} (h : nameB z = true) : wordB z = true := by
  unfold wordB
  rw [nameIn_name h]
  exact h
theorem word_lot {a y : Str} (ha : a = "old." ∨ a = "new.") (h : nameB y = true) : wordB (a ++ y) = true := by
  unfold wordB
  rw [nameIn_lot a y ha]
  exact h
end Sl
/-! ## ValA -/
set_option Elab.async false
set_option linter.all false
set_option maxRecDepth 100000
set_option maxHeartbeats 8000000
namespace Lw
open PySem PySem.Spec PyProof.Rows L2 Sl
section
variable {P : Program} {w : World} {K : PySem.W.Frag} {mg : Str → Option Value} {base : Heap} {f : Addr} {fd : FuncData}
/-! ### names and whole numbers told apart -/
def sp_isname (K : PySem.W.Frag) : Sp := fun vs H Q _ => ∃ v, vs = [v] ∧ ((∃ z : Str, v = .str z ∧ z.length ≤ 1000 ∧ ∀ H', Same H H' → Q (.bl (nameB z)) H') ∨ ∃ t, TyX K H v t ∧ PySem.W.kitOne K t (.type "str") = some false ∧ ∀ H', Same H H' → Q (.bl false) H')
theorem ok_is_name (F : FnP K "is_name" s_is_name [] f fd) (mI : mg "isinstance" = none) (mS : mg "str" = none) (mL : mg "len" = none) (mA : mg "all" = none) {t1 t2 : Tok} (gL : mg "LETTERS" = some (.str alpha t1)) (gM : mg "MOST_LETTERS" = some (.int 8 t2)) :
    FnOk P w K mg base CX0 1 f fd ["thing"] (sp_isname K) := by
  refine F.ok sc_is_name (fun vs H Q E h => ?_) (fun cdv A outer s H vs Q E hr h => ?_)
  · obtain ⟨v, rfl, _⟩ := h
    rfl
  · obtain ⟨v, rfl, h⟩ := h
    have nd := sc_is_name.nd
    refine ⟨_, PSs.nox (pss_cons (ps_if (PW.pt (pw_or (pt_not (pt_val (pe_callB call_isi (by rfl) mI PyProof.Rows.Boot.«isinstance» (pa_cons (pv 0) (pa_cons (pe_bltn (v := .ty "str") (by rfl) mS PyProof.Rows.Boot.«str» rfl) pa_nil)))))
          (pw_or1 (pt_not (pt_chain op_le op_le pe_int (pe_callB call_len_str (by rfl) mL boot_len (pa_cons (pv 0) pa_nil)) (pe_glob (v := .int 8) (by rfl) gM ⟨_, rfl⟩))))))
        (pss_one (ps_ret pe_bl)) pss_nil)
      (pss_one (ps_ret (pe_callB (cr_all rfl) (by rfl) mA PyProof.Rows.Boot.«all» (pa_cons (pe_lc (own := [("letter", 1)]) (g := gName 1) (tt := tYes) rfl nd (pi_str (pv 0)) (blkOk_by (N := ["thing", "letter"]) (sc := defScope s_is_name) (by decide +kernel)) (fun _ _ _ _ _ => pg_name (i := 1) nd rfl (Or.inl rfl)) (fun _ _ _ _ _ => pts_nil)
          (fun _ _ _ _ _ => pe_cmpR op_in_sign (pv 1) (pe_glob (v := .str alpha) (by rfl) gL ⟨_, rfl⟩) (by rfl))) pa_nil))))), ?_⟩
    rcases h with ⟨z, rfl, hz, k⟩ | ⟨t, ht, hk, k⟩
    · refine ifs_of ⟨_, rfl, _, .ty "str", .type "str", .type "str", true, rfl, .ty _, .base (.str _), kit_ty (by decide +kernel), _, rfl, iteF ?_⟩
      refine ⟨_, rfl, z, rfl, (by rw [sizeLine_eq]; omega), 1, (z.length : Int), rfl, rfl, _, rfl, ite_of (fun h1 => ⟨(z.length : Int), 8, rfl, rfl, _, rfl, ?_⟩) (fun h1 => ⟨_, rfl, iteT (?_ : Q _ _)⟩)⟩
      · cases h8 : decide ((z.length : Int) ≤ 8) with
        | false =>
          refine iteT ?_
          have e : nameB z = false := by
            unfold nameB
            have : decide (z.length ≤ 8) = false := decide_eq_false (by have := of_decide_eq_false h8; omega)
            rw [this]
            simp
          have := k H fun _ _ e => e
          rw [e] at this
          exact this
        | true =>
          refine iteF (nx_of ?_)
          refine ⟨_, rfl, z, rfl, fun D hD => ?_⟩
          refine lc_it walk_str (fun i H' => Same H H' ∧ H' D = some (.lst (((z.cps.toList.take i).map letB).map V.bl))) ⟨same_new hD, upd_same⟩ (fun _ _ _ _ => trivial) ?_ ?_
          · intro i x Ha Hb hi ⟨s1, hd1⟩ ⟨e, c, hc, ex⟩
            subst e ex
            refine ⟨rfl, yes_of (iteT ?_)⟩
            refine ⟨_, rfl, c, alpha, rfl, rfl, _, hd1, ?_, ?_, ?_⟩
            · rw [List.length_map, List.length_map, List.length_take, Array.length_toList, sizeLine_eq]
              have : z.cps.size ≤ 1000 := hz
              omega
            · intro b o e
              rw [upd_ne (ne_of_none e hD)]
              exact s1 _ _ e
            · have hc' : z.cps.toList[i]? = some c := by
                rw [Array.getElem?_toList]
                exact hc
              rw [upd_same, List.take_succ, hc', List.map_append, List.map_append]
              rfl
          · intro H4 ⟨s4, hd4⟩
            refine ⟨D, _, rfl, SqL.of hd4, ?_⟩
            have e : nameB z = (((z.cps.toList.take z.cps.size).map letB).all id) := by
              unfold nameB
              have h1' : decide (1 ≤ z.length) = true := decide_eq_true (by have := of_decide_eq_true h1; omega)
              have h8' : decide (z.length ≤ 8) = true := decide_eq_true (by have := of_decide_eq_true h8; omega)
              rw [h1', h8', List.all_map, show z.cps.toList.take z.cps.size = z.cps.toList from by rw [← Array.length_toList]; exact List.take_length]
              rfl
            rw [← e]
            exact k H4 s4
      · have e : nameB z = false := by
          unfold nameB
          have : decide (1 ≤ z.length) = false := decide_eq_false (by have := of_decide_eq_false h1; omega)
          rw [this]
          rfl
        have := k H fun _ _ e => e
        rw [e] at this
        exact this
    · exact ifs_of ⟨_, rfl, _, .ty "str", t, .type "str", false, rfl, .ty _, ht, hk, _, rfl, iteT (iteT (k H fun _ _ e => e))⟩
end
end Lw
/-! ## ValB -/
set_option Elab.async false
set_option linter.all false
set_option maxRecDepth 100000
set_option maxHeartbeats 8000000
namespace Lw
open PySem PySem.Spec PyProof.Rows L2 Sl
section
variable {P : Program} {w : World} {K : PySem.W.Frag} {mg : Str → Option Value} {base : Heap} {f : Addr} {fd : FuncData}
def sp_isint (K : PySem.W.Frag) : Sp := fun vs H Q _ => ∃ i : Int, vs = [.int i] ∧ Q (.bl true) H
theorem ok_is_integer (F : FnP K "is_integer" s_is_integer [] f fd) (mI : mg "isinstance" = none) (mN : mg "int" = none) (mB : mg "bool" = none) : FnOk P w K mg base CX0 1 f fd ["thing"] (sp_isint K) := by
  refine F.ok sc_is_integer (fun vs H Q E h => ?_) (fun cdv A outer s H vs Q E hr h => ?_)
  · obtain ⟨v, rfl, _⟩ := h
    rfl
  · obtain ⟨i, rfl, k⟩ := h
    refine ⟨_, PSs.nox (pss_one (ps_ret (pe_and (pe_callB call_isi (by rfl) mI PyProof.Rows.Boot.«isinstance» (pa_cons (pv 0) (pa_cons (pe_bltn (v := .ty "int") (by rfl) mN PyProof.Rows.Boot.«int» rfl) pa_nil)))
      (pe_one (pe_not (pe_callB call_isi (by rfl) mI PyProof.Rows.Boot.«isinstance» (pa_cons (pv 0) (pa_cons (pe_bltn (v := .ty "bool") (by rfl) mB PyProof.Rows.Boot.«bool» rfl) pa_nil)))))))), ?_⟩
    exact ⟨_, rfl, _, .ty "int", .type "int", .type "int", true, rfl, .ty _, .base (.int _), kit_ty (by decide +kernel), _, rfl, iteT ⟨_, rfl, _, .ty "bool", .type "int", .type "bool", false, rfl, .ty _, .base (.int _), kit_ty (by decide +kernel), _, rfl, k⟩⟩
def sp_islist (K : PySem.W.Frag) : Sp := fun vs H Q _ => ∃ (v : V) (t : Value), vs = [v] ∧ TyX K H v t ∧ PySem.W.kitAny K t [.type "list", .type "tuple"] = some true ∧ ∀ H', Same H H' → Q (.bl true) H'
theorem ok_is_list (F : FnP K "is_list" s_is_list [] f fd) (mI : mg "isinstance" = none) (mL : mg "list" = none) (mT : mg "tuple" = none) : FnOk P w K mg base CX0 1 f fd ["thing"] (sp_islist K) := by
  refine F.ok sc_is_list (fun vs H Q E h => ?_) (fun cdv A outer s H vs Q E hr h => ?_)
  · obtain ⟨v, t, rfl, _⟩ := h
    rfl
  · obtain ⟨v, t, rfl, ht, hk, k⟩ := h
    refine ⟨_, PSs.nox (pss_one (ps_ret (pe_callB call_isiT (by rfl) mI PyProof.Rows.Boot.«isinstance» (pa_cons (pv 0) (pa_cons (pe_tup (pa_cons (pe_bltn (v := .ty "list") (by rfl) mL PyProof.Rows.Boot.«list» rfl) (pa_cons (pe_bltn (v := .ty "tuple") (by rfl) mT PyProof.Rows.Boot.«tuple» rfl) pa_nil))) pa_nil))))), ?_⟩
    refine ⟨_, rfl, (by show 2 ≤ sizeLine; decide), fun p hp => ?_⟩
    refine ⟨v, p, _, t, _, true, rfl, upd_same, .cons (.ty _) (.cons (.ty _) .nil), ?_, hk, k _ (same_new hp)⟩
    exact TyX.same ht (same_new hp)
end
end Lw
/-! ## ValE3 -/
set_option Elab.async false
set_option linter.all false
set_option maxRecDepth 100000
set_option maxHeartbeats 8000000
namespace Lw
open PySem PySem.Spec PyProof.Rows L2 Sl
section
variable {P : Program} {w : World} {K : PySem.W.Frag} {mg : Str → Option Value} {base : Heap} {f : Addr} {fd : FuncData}
def sp_sums : Sp := fun vs H Q _ => ∃ (a b : Addr) (A B : NI), vs = [.ref a, .ref b] ∧ H a = some (dI A) ∧ H b = some (dI B) ∧ (ks A).Nodup ∧ (ks B).Nodup ∧ A.length ≤ 400 ∧ B.length ≤ 400 ∧
  ∀ (d : Addr) (S : NI) (H' : Hp), H d = none → Same H H' → H' d = some (dI S) → (ks S).Nodup → (∀ x, x ∈ ks S ↔ x ∈ ks A ∨ x ∈ ks B) → (∀ x, get0 S x = get0 A x + get0 B x) → S.length ≤ 800 → Q (.ref d) H'
theorem ok_sums (F : FnP K "sums" s_sums [] f fd) : FnOk P w K mg base CX0 1 f fd ["one", "other"] sp_sums := by
  refine F.ok sc_sums (fun vs H Q E h => ?_) (fun cdv A outer s H vs Q E hr h => ?_)
  · obtain ⟨a, b, A, B, rfl, _⟩ := h
    rfl
  · obtain ⟨a, b, A, B, rfl, ha, hb, na, nb, la, lb, k⟩ := h
    have nd := sc_sums.nd
    have hu := hu_of hr
    refine ⟨_, PSs.nox (pss_one (ps_ret (pe_dc (own := [("name", 2)]) (g := gName 2) (tt := tYes) rfl nd (pi_keysN (pe_two (pv 0) (pv 1))) (blkOk_by (N := ["one", "other", "name"]) (sc := defScope s_sums) (by decide +kernel))
      (fun _ _ _ _ _ => pg_name (i := 2) nd rfl (Or.inl rfl)) (fun _ _ _ _ _ => pts_nil) (fun _ _ _ _ _ => pv 2)
      (fun _ _ _ _ _ => pe_op op_add (pe_dget2 hu (pv 0) (pv 2) pe_int ⟨rfl, rfl, rfl, rfl⟩) (pe_dget2 hu (pv 1) (pv 2) pe_int ⟨rfl, rfl, rfl, rfl⟩))))), ?_⟩
    intro p hp
    have nap : a ≠ p := fun e => by rw [e, hp] at ha; cases ha
    have nbp : b ≠ p := fun e => by rw [e, hp] at hb; cases hb
    refine ⟨_, rfl, a, A.map kvi, rfl, nap, .inl (by rw [upd_ne nap]; exact ha), upd_same, (by rw [List.length_map]; omega), ?_⟩
    refine ⟨_, rfl, b, B.map kvi, rfl, nbp, .inl (by rw [upd_ne nbp, upd_ne nbp]; exact hb), upd_same, (by rw [List.length_map]; omega), ?_⟩
    rw [mergeK_nil na, mergeK_kvi]
    obtain ⟨nU, mU⟩ := mrgI_keys B A na
    have lU := mrgI_len B A
    generalize mrgI A B = M at nU mU lU
    refine ⟨p, M.map kvi, rfl, upd_same, fun od => ?_⟩
    have e0 : ∀ c o, H c = some o → (upd (upd (upd (upd H p (.dK [])) p (.dK (A.map kvi))) p (.dK (M.map kvi))) p (.frz od (.dK (M.map kvi)))) c = some o := fun c o e => by
      have n := ne_of_none e hp
      rw [upd_ne n, upd_ne n, upd_ne n, upd_ne n]
      exact e
    have ep : (upd (upd (upd (upd H p (.dK [])) p (.dK (A.map kvi))) p (.dK (M.map kvi))) p (.frz od (.dK (M.map kvi)))) p = some (.frz od (.dK (M.map kvi))) := upd_same
    generalize upd (upd (upd (upd H p (.dK [])) p (.dK (A.map kvi))) p (.dK (M.map kvi))) p (.frz od (.dK (M.map kvi))) = H1 at e0 ep
    intro D hD
    refine dc_it (walk_keys (o := od) (d := p) (kvs := M.map kvi)) (fun i H' => Same H1 H' ∧ H' D = some (dI (((ks M).take i).map fun x => (x, get0 A x + get0 B x)))) ⟨same_new hD, upd_same⟩ (fun i H' _ ⟨s2, _⟩ => s2 _ _ ep) ?_ ?_
    · intro i x Ha Hb hi ⟨s2, hd⟩ ⟨e, kk, v, hk, ex⟩
      subst e ex
      rw [List.getElem?_map] at hk
      obtain ⟨q, hq, eq⟩ := Option.map_eq_some_iff.mp hk
      have ek : kk = .inr q.1 := (congrArg Prod.fst eq).symm
      subst ek
      have ha2 := s2 _ _ (e0 _ _ ha)
      have hb2 := s2 _ _ (e0 _ _ hb)
      have hqk : (ks M)[i]? = some q.1 := by
        unfold ks
        rw [List.getElem?_map, hq]
        rfl
      refine ⟨rfl, yes_of (iteT ?_)⟩
      refine ⟨_, rfl, _, rfl, a, rfl, .inl ⟨_, .inl ha2⟩, _, rfl, valV (A.map kvi) (.inr q.1), .inl ⟨A.map kvi, .inr q.1, .inl ha2, rfl, rfl⟩, _, rfl, b, rfl, .inl ⟨_, .inl hb2⟩, _, rfl, valV (B.map kvi) (.inr q.1), .inl ⟨B.map kvi, .inr q.1, .inl hb2, rfl, rfl⟩, ?_⟩
      have gv : ∀ C : NI, (valV (C.map kvi) (.inr q.1)).getD (.int 0) = .int (get0 C q.1) := fun C => by
        rw [valV_kvi]
        unfold get0
        cases get? C q.1 <;> rfl
      refine ⟨get0 A q.1, get0 B q.1, gv A, gv B, _, .inr q.1, rfl, hd, ?_, ?_, ?_⟩
      · rw [List.length_map, List.length_map, List.length_take, sizeLine_eq]
        unfold ks
        rw [List.length_map]
        omega
      · intro c o e
        rw [upd_ne (ne_of_none e hD)]
        exact s2 _ _ e
      · rw [upd_same, List.take_succ, hqk, List.map_append]
        show some (HO.dK (putK _ (.inr q.1) (.int (get0 A q.1 + get0 B q.1)))) = _
        rw [putK_new _ _ _ ?_]
        · rfl
        · rw [ks_map]
          intro hm
          have h1 : ((ks M).take (i + 1)).Nodup := List.Nodup.sublist (List.take_sublist _ _) nU
          rw [List.take_succ, hqk, List.nodup_append] at h1
          exact h1.2.2 q.1 hm q.1 (List.mem_singleton.mpr rfl) rfl
    · intro H2 ⟨s2, hd⟩
      have et : (ks M).take (M.map kvi).length = ks M := by
        rw [List.length_map]
        have : M.length = (ks M).length := by unfold ks; rw [List.length_map]
        rw [this]
        exact List.take_length
      rw [et] at hd
      have kD : H D = none := by
        cases eD : H D with
        | none => rfl
        | some o => rw [e0 _ _ eD] at hD; cases hD
      refine k D _ H2 kD (fun c o e => s2 _ _ (e0 _ _ e)) hd (by rw [ks_map]; exact nU) (fun x => by rw [ks_map]; exact mU x) (fun x => ?_) ?_
      · rw [get0_map nU (fun x => get0 A x + get0 B x)]
        by_cases hx : x ∈ ks M
        · rw [if_pos hx]
        · rw [if_neg hx, get0_none (fun h => hx ((mU x).mpr (.inl h))), get0_none (fun h => hx ((mU x).mpr (.inr h)))]
          rfl
      · rw [List.length_map]
        unfold ks
        rw [List.length_map]
        omega
end
end Lw
/-! ## SlOps -/
set_option Elab.async false
set_option linter.all false
set_option maxRecDepth 100000
set_option maxHeartbeats 4000000
/-! an own class's ==, != and the operators that it defines, whatever they answer -/
namespace Sl
open PySem PySem.Spec PyProof.Rows L2
section
variable {prog : Program} {w : World} {A : Around} {E : Value → Shared → Prop} {s : Shared} {K : PySem.W.Frag} {x C L f : Addr} {h₀ : Heap} {m : Str → Option Value} {ox : Obj} {od : Option Obj} {b tb : Value}
theorem ne_entry {Q : Fin → Shared → Prop} (X : K.In s.heap) (I : PySem.W.InstAt s.heap x ox C od) (hs : PySem.W.findIn K (.ref C) "__eq__" = some (some (.ref f))) (hf : PySem.W.isFn K (.ref f) = true) (hu : A.units < cLine)
    (h : wpAny (model prog w) A (call (.ref f) [.ref x, b]) (fun v s' => ∃ c, v = .bool c ∧ Q (.done (.ret (.bool (!c)))) s') E s) : wpAny (model prog w) A (Builtin.«object.__ne__» ⟨[.ref x, b], []⟩) Q E s := by
  unfold Builtin.«object.__ne__»
  repeat (first
    | with_reducible refine wpAny_cRoomFor hu ?_
    | (refine wpAny_bind (m := callSpecialIfBound? (.ref x) (Str.ofString "__eq__") [b])
        (PySem.W.ifBound_K X I hs hf (wpAny_mono h (fun r s' hr => by
          obtain ⟨c, rfl, hq⟩ := hr
          repeat (first | exact hq | exact wpAny_pure hq | exact wpAny_truthy_bool hq | (refine wpAny_bind (m := truthy (.bool _)) (wpAny_truthy_bool ?_)) | wp_step)) fun _ _ e => e)))
    | wp_step)
theorem ifBound_B {M : Model} {name : Str} {id : String} {args : List Value} {Q : Option Value → Shared → Prop} (X : K.In s.heap) (I : PySem.W.InstAt s.heap x ox C od) (hs : PySem.W.findIn K (.ref C) name = some (some (.builtin id))) (hb : bindSpecial (.builtin id) (.ref x) = pure (.builtin id, [.ref x]))
    (h : wpAny M A (call (.builtin id) (.ref x :: args)) (fun v => Q (some v)) E s) : wpAny M A (callSpecialIfBound? (.ref x) name args) Q E s := by
  simp only [callSpecialIfBound?, bindSpecialIfBound?]
  refine wpAny_holding (wpAny_bind (wpAny_bind (wpAny_bind (I.type.here ((PySem.W.looks_findIn X hs).here ?_)))))
  refine wpAny_bind (wpAny_askSetting (wpAny_ite ?_))
  have fin : wpAny M A (call (.builtin id) ([.ref x] ++ args) >>= fun v => pure (some v)) Q E s := wpAny_bind (wpAny_mono h (fun v s' h' => wpAny_pure h') fun _ _ h' => h')
  rw [hb]
  split
  · exact wpAny_bind (wpAny_pure (wpAny_pure (by exact fin)))
  · exact wpAny_tryCatch (wpAny_bind (wpAny_pure (wpAny_pure (by exact fin))))
theorem ne_K {Q : Value → Shared → Prop} (hu : A.units + 1 < cLine) (X : K.In s.heap) (I : PySem.W.InstAt s.heap x ox C od) (hb : PySem.W.Looks (model prog w) s.heap (typeOf b) tb) (hn : PySem.W.notFirst K C tb = true)
    (hs : PySem.W.findIn K (.ref C) "__eq__" = some (some (.ref f))) (hf : PySem.W.isFn K (.ref f) = true) (hne : PySem.W.findIn K (.ref C) "__ne__" = some (some (.builtin "object.__ne__"))) (ho : PySem.W.subIn K (.ref C) (.type "object") = some true)
    (h : wpAny (model prog w) A.in1 (call (.ref f) [.ref x, b]) (fun v s' => ∃ c, v = .bool c ∧ Q (.bool (!c)) s') E s) : wpAny (model prog w) A (richCompare .NotEq (.ref x) b) Q E s := by
  have one : wpAny (model prog w) A (tryCompare (.ref x) "__ne__" b) (fun r s' => ∃ v, r = some v ∧ Q v s') E s := by
    unfold tryCompare
    refine wpAny_bind (ifBound_B X I hne (F.cmp_object.ne.bind (.ref x)) (wpAny_call (codeAny_call_builtin F.cmp_object.ne.plain F.cmpEntry_ne
      (PySem.W.check_slot F.cmpKind_ne F.cmpSplit_ne (I.type.andThen (PySem.W.looks_subIn X ho)) (F.cmpArgs_ne _ _) (ne_entry (A := A.in1) X I hs hf hu (wpAny_mono h (fun v s' hv => ?_) fun _ _ e => e))))))
    obtain ⟨c, rfl, hq⟩ := hv
    first | exact ⟨c, rfl, wpAny_pure ⟨_, rfl, hq⟩⟩ | exact ⟨c, rfl, _, rfl, hq⟩ | exact ⟨c, rfl, wpAny_pure (wpAny_pure ⟨_, rfl, hq⟩)⟩
  unfold richCompare
  simp only [oneThing_ref]
  refine wpAny_holding (wpAny_bind (wpAny_cRoomFor (Nat.lt_of_succ_lt hu) ?_))
  rw [cmpInfo_NotEq]
  dsimp only
  refine wpAny_bind (I.type.here (wpAny_bind (hb.here ?_)))
  split
  · rename_i q
    have e : PySem.W.subIn K tb (.ref C) = some false := by
      rcases Bool.or_eq_true_iff.mp hn with e | e
      · rw [beq_iff_eq.mp e] at q; simp at q
      · exact beq_iff_eq.mp e
    refine wpAny_bind ((PySem.W.looks_subIn X e).here ?_)
    simp only [Bool.false_eq_true, if_false]
    refine wpAny_bind (wpAny_mono one (fun r s' z => ?_) fun _ _ e => e)
    obtain ⟨v, rfl, hq⟩ := z
    exact wpAny_pure hq
  · refine wpAny_bind (wpAny_pure ?_)
    simp only [Bool.false_eq_true, if_false]
    refine wpAny_bind (wpAny_mono one (fun r s' z => ?_) fun _ _ e => e)
    obtain ⟨v, rfl, hq⟩ := z
    exact wpAny_pure hq
end
/-! ### the rules -/
/-- the type of the right one: the class C itself, or one that C is not of -/
def rightT (K : PySem.W.Frag) (C : Addr) (H : Hp) (y : V) : Prop := (∃ (a dx : Addr) (fs : List (Str × V)), y = .ref a ∧ H a = some (.ins C dx fs)) ∨ ∃ t, TyX K H y t ∧ PySem.W.notFirst K C t = true
/-- x == y, x != y by the own == of the left one, which lets no exception out -/
def rOwnEq (K : PySem.W.Frag) (C : Addr) (sp : Sp) : R2 := fun x y H Q => ∃ (a dx : Addr) (fs : List (Str × V)), x = .ref a ∧ H a = some (.ins C dx fs) ∧ rightT K C H y ∧ sp [.ref a, y] H (fun v H' => ∃ c, v = .bl c ∧ Q (.bl c) H') (fun _ _ _ => False)
def rOwnNe (K : PySem.W.Frag) (C : Addr) (sp : Sp) : R2 := fun x y H Q => ∃ (a dx : Addr) (fs : List (Str × V)), x = .ref a ∧ H a = some (.ins C dx fs) ∧ rightT K C H y ∧ sp [.ref a, y] H (fun v H' => ∃ c, v = .bl c ∧ Q (.bl (!c)) H') (fun _ _ _ => False)
/-- an operator of two instances of C by the own def of the left one -/
def rOwnOp (C : Addr) (sp : Sp) : R2 := fun x y H Q => ∃ (a dx : Addr) (fs : List (Str × V)) (b dy : Addr) (gs : List (Str × V)), x = .ref a ∧ H a = some (.ins C dx fs) ∧ y = .ref b ∧ H b = some (.ins C dy gs) ∧ sp [.ref a, .ref b] H Q (fun _ _ _ => False)
section
variable {X : Cx} {CX : CXT} {k : Nat} {C f : Addr} {fd : FuncData} {ps : List Str} {sp : Sp}
theorem right_looks {pins : List (Addr × Obj)} {σ : L2.St} {H : Hp} {s : Shared} {y : V} {u : Value} (I : Inv X pins σ H s) (ry : RelV y u) (h : rightT X.K C H y) : ∃ tb, PySem.W.Looks (model X.prog X.w) s.heap (typeOf u) tb ∧ PySem.W.notFirst X.K C tb = true := by
  rcases h with ⟨a, dx, fs, rfl, ha⟩ | ⟨t, ht, hn⟩
  · cases ry
    obtain ⟨mA, J, _⟩ := ins_get I.hok ha
    obtain ⟨od, J, _⟩ := J.look
    exact ⟨_, J.type, by simp [PySem.W.notFirst]⟩
  · obtain ⟨P, KX, hp, _⟩ := kit_of I ry ht
    exact ⟨t, KX.ty _ _ I.kIn hp, hn⟩
theorem call_at {A : Around} {pins : List (Addr × Obj)} {σ : L2.St} {H : Hp} {s : Shared} {x y : V} {u v : Value} {Q : VK} (F : FnOk X.prog X.w X.K X.mg X.base CX k f fd ps sp) (hr : Room k A) (hfr : A.frames = X.A.frames) (hb : Binds X.K fd ps []) (hx : Passes CX X (fun _ _ _ => False)) (I : Inv X pins σ H s)
    (rx : RelV x v) (ry : RelV y u) (h : sp [x, y] H Q (fun _ _ _ => False)) : wpAny (model X.prog X.w) A (call (.ref f) [v, u]) (fun r s' => ∃ z H', Inv X pins σ H' s' ∧ RelV z r ∧ Q z H') X.xe s := by
  have e0 : Env0 X.prog X.w X.K X.mg X.base A X.stack s H := by
    have e := I.env0
    exact ⟨by rw [hfr]; exact e.frames, e.mod, e.bs, e.bsz, e.funs, e.frf, e.hok, e.bare⟩
  have hl := F.len _ _ _ _ h
  have r2 : Vals [x, y] [v, u] := .cons rx (.cons ry .nil)
  refine wpAny_call (codeAny_mono (F.run A X.stack s H ⟨[v, u], []⟩ [v, u] [x, y] _ _ hr e0 (by
    have := hb s [v, u] I.kIn (by simpa using hl)
    simpa using this) r2 h) fun r s' hq => ?_)
  cases r with
  | error e => exact hx pins σ H s e s' I hq
  | ok fl =>
    cases fl with
    | ret w =>
      obtain ⟨z, H', I', rz, q⟩ := I.after hq
      exact ⟨z, H', I', rz, q⟩
    | next => exact False.elim hq
    | brk => exact False.elim hq
    | cont => exact False.elim hq
theorem op_ownEq (F : FnOk X.prog X.w X.K X.mg X.base CX k f fd ps sp) (hs : PySem.W.findIn X.K (.ref C) "__eq__" = some (some (.ref f))) (hf : PySem.W.isFn X.K (.ref f) = true) (hb : Binds X.K fd ps []) (hx : Passes CX X (fun _ _ _ => False)) (hr : Room k X.A) :
    OpR X (compareOp .Eq) (rOwnEq X.K C sp) := by
  intro pins s σ H x y v u Q I rx ry h
  obtain ⟨a, dx, fs, rfl, ha, hy, q⟩ := h
  cases (show v = Value.ref a from rx)
  obtain ⟨mA, J, _⟩ := ins_get I.hok ha
  obtain ⟨od, J, _⟩ := J.look
  obtain ⟨tb, hT, hn⟩ := right_looks I ry hy
  obtain ⟨m, hF⟩ := I.fr
  show wpAny (model X.prog X.w) X.A (richCompare .Eq (.ref a) u) (EP X pins σ Q) X.xe s
  refine PySem.W.cmp_K (op := .Eq) (tb := tb) hr.units0 hF I.ok.mod.kin J hT hn hs hf ?_
  refine wpAny_mono (call_at F hr rfl hb hx I (x := .ref a) rfl ry q) (fun r s' z => ?_) fun _ _ x => x
  obtain ⟨z, H', I', rz, c, ez, q'⟩ := z
  subst ez
  cases rz
  exact ⟨.bl c, H', I', rfl, q'⟩
theorem op_ownNe (F : FnOk X.prog X.w X.K X.mg X.base CX k f fd ps sp) (hs : PySem.W.findIn X.K (.ref C) "__eq__" = some (some (.ref f))) (hf : PySem.W.isFn X.K (.ref f) = true) (hne : PySem.W.findIn X.K (.ref C) "__ne__" = some (some (.builtin "object.__ne__")))
    (ho : PySem.W.subIn X.K (.ref C) (.type "object") = some true) (hb : Binds X.K fd ps []) (hx : Passes CX X (fun _ _ _ => False)) (hr : Room (k + 1) X.A) : OpR X (compareOp .NotEq) (rOwnNe X.K C sp) := by
  intro pins s σ H x y v u Q I rx ry h
  obtain ⟨a, dx, fs, rfl, ha, hy, q⟩ := h
  cases (show v = Value.ref a from rx)
  obtain ⟨mA, J, _⟩ := ins_get I.hok ha
  obtain ⟨od, J, _⟩ := J.look
  obtain ⟨tb, hT, hn⟩ := right_looks I ry hy
  show wpAny (model X.prog X.w) X.A (richCompare .NotEq (.ref a) u) (EP X pins σ Q) X.xe s
  refine ne_K (tb := tb) (by have := hr.units; omega) I.kIn J hT hn hs hf hne ho ?_
  refine wpAny_mono (call_at F hr.in1 rfl hb hx I (x := .ref a) rfl ry q) (fun r s' z => ?_) fun _ _ x => x
  obtain ⟨z, H', I', rz, c, ez, q'⟩ := z
  subst ez
  cases rz
  exact ⟨c, rfl, .bl (!c), H', I', rfl, q'⟩
theorem op_ownOp {op : Operator} (F : FnOk X.prog X.w X.K X.mg X.base CX k f fd ps sp) (hs : PySem.W.findIn X.K (.ref C) (PySem.dunder op.info.2) = some (some (.ref f))) (hf : PySem.W.isFn X.K (.ref f) = true) (hc : PySem.W.selfFirst X.K C = true) (hb : Binds X.K fd ps [])
    (hx : Passes CX X (fun _ _ _ => False)) (hr : Room k X.A) : OpR X (binaryOp op) (rOwnOp C sp) := by
  intro pins s σ H x y v u Q I rx ry h
  obtain ⟨a, dx, fs, b, dy, gs, rfl, ha, rfl, hb', q⟩ := h
  cases (show v = Value.ref a from rx)
  cases (show u = Value.ref b from ry)
  obtain ⟨mA, J, _⟩ := ins_get I.hok ha
  obtain ⟨od, J, _⟩ := J.look
  obtain ⟨mB, J', _⟩ := ins_get I.hok hb'
  obtain ⟨od', J', _⟩ := J'.look
  obtain ⟨m, hF⟩ := I.fr
  refine PySem.W.binop_K hF I.ok.mod.kin J J'.type hc hs hf ?_
  refine wpAny_mono (call_at F hr rfl hb hx I (x := .ref a) (y := .ref b) rfl rfl q) (fun r s' z => ?_) fun _ _ x => x
  obtain ⟨z, H', I', rz, q'⟩ := z
  have fin : EP X pins σ Q r s' := ⟨z, H', I', rz, q'⟩
  cases z with
  | non => cases (show r = Value.none from rz); exact fin
  | bl c => cases (show r = Value.bool c from rz); exact fin
  | int i => obtain ⟨t, rfl⟩ := (show ∃ t, r = Value.int i t from rz); exact fin
  | str i => obtain ⟨t, rfl⟩ := (show ∃ t, r = Value.str i t from rz); exact fin
  | byt i => obtain ⟨t, rfl⟩ := (show ∃ t, r = Value.bytes i t from rz); exact fin
  | flt i => obtain ⟨t, rfl⟩ := (show ∃ t, r = Value.float i t from rz); exact fin
  | ref i => cases (show r = Value.ref i from rz); exact fin
  | ty i => cases (show r = Value.type i from rz); exact fin
end
end Sl
/-! ## SlExc -/
set_option Elab.async false
set_option linter.all false
set_option maxRecDepth 100000
set_option maxHeartbeats 4000000
namespace Sl
open PySem PySem.Spec PyProof.Rows L2
section
variable {X : Cx} {CX : CXT} {k : Nat} {f D fI : Addr} {fd : FuncData} {ps : List Str} {sp : Sp} {ds : List Value} {dvs : List V} {E : XK} {x m : Str} {mc : Value} {e : Expr} {es : List Expr} {p p1 p2 pos : Pos} {t : TA}
/-- D.m(e, ..): a def read off an own class -/
theorem pe_clsfn {pl : Sem Bool} (hg : Gl X x) (hm : X.mg x = some (.ref D)) (r : ClX.CRead X.K D mc) (kv : PySem.W.findCls X.K (.ref D) mc m = some (.val (.ref f))) (hk : PySem.W.keepIn X.K (.ref f) = true)
    (F : FnOk X.prog X.w X.K X.mg X.base CX k f fd ps sp) (hr : Room k X.A) (hb : Binds X.K fd ps ds) (hd : Vals dvs ds) (hx : Passes CX X E) (ha : PA X (e :: es) t)
    (hc : eval (.Call (.Attribute (.Name x p1) m p2) (e :: es) [] pos) X.env = (do
      let ov ← eval (.Name x p1) X.env
      standAt p2.atName
      let (f, first) ← holding [ov] (getMethod ov m pl)
      callWith pos f first (backTo pos (starEach (e :: es) X.env)) (backToKw pos (keywordEach [] X.env))) := by rfl)
    (hdb : (x == ("__debug__" : Str)) = false := by decide)
    (he : starEach (e :: es) X.env = (false, eval e X.env) :: starEach es X.env := by rfl) (hpl : (backTo pos (starEach es X.env)).any (·.1) = false := by rfl) :
    PE X (.Call (.Attribute (.Name x p1) m p2) (e :: es) [] pos) (tCall sp dvs E t) := by
  refine ⟨fun pins s σ H Q I h => ?_⟩
  refine PySem.W.methodCall_KW (ld_glob I hg hm ?_ hdb) hc
  refine PySem.W.method_cls I.kIn r.ga (ClX.getcval_ok (v := .ref f) I r ⟨kv, rfl⟩ fun s1 I1 => ?_)
  refine PySem.W.callWith_K (h₀ := X.base) I1.ok.mod.kin hk (thn (ha.run pos pins s1 σ H _ I1 h) fun us s2 ⟨vs, H2, I2, r2, q⟩ => ⟨I2.kIn, ?_⟩) he hpl
  exact run_fn F hr hb hd hx I2 r2 q
/-- C(e, ..), an own exception, as a value -/
def tExc (C : Addr) (sp : Sp) (dvs : List V) (ta : TA) : TE := fun σ H Q => ta σ H fun vs H1 => vs.length ≤ 1000 ∧ ∀ a, H1 a = none → sp (.ref a :: (vs ++ dvs)) (upd H1 a (exo a C none)) (fun v H2 => v = .non ∧ Q (.ref a) H2) (fun _ _ _ => False)
theorem run_exc {C : Addr} {pins : List (Addr × Obj)} {σ : L2.St} {H1 : Hp} {s1 : Shared} {Q : VK} {us : List Value} {vs : List V} (T : OexC X.K C) (iC : PySem.W.findIn X.K (.ref C) "__init__" = some (some (.ref fI))) (tI : PySem.W.typeIn X.K (.ref fI) = some (.type "function"))
    (F1 : FnOk X.prog X.w X.K X.mg X.base CX k fI fd ps sp) (hr : Room (k + 1) X.A) (hb : Binds X.K fd ps ds) (hd : Vals dvs ds) (hx : Passes CX X (fun _ _ _ => False)) (I1 : Inv X pins σ H1 s1) (r1 : Vals vs us) (hz : vs.length ≤ 1000)
    (q1 : ∀ a, H1 a = none → sp (.ref a :: (vs ++ dvs)) (upd H1 a (exo a C none)) (fun v H2 => v = .non ∧ Q (.ref a) H2) (fun _ _ _ => False)) :
    wpAny (model X.prog X.w) X.A (call (.ref C) us) (EP X pins σ Q) X.xe s1 := by
  obtain ⟨nm, q, N, bs, bm, sn, sub, ab, col, dd, k0, k1, k2, k3, k5, hC, hbm⟩ := T.cls
  obtain ⟨hp, g, dr, tk, os⟩ := s1
  have hsz : hp.objs.size ≤ hp.objs.size + 1 := Nat.le_succ _
  have hn : H1 (hp.objs.size + 1) = none := I1.hok.fresh hsz
  have hq := q1 (hp.objs.size + 1) hn
  have kk : ∀ b o, hp.get? b = some o → ((hp.push (PySem.W.kdv_tup us)).push (PySem.HandSPX.excO C hp.objs.size)).get? b = some o := fun b o e => Heap.get?_push_of_some _ (Heap.get?_push_of_some _ e)
  have hget : ((hp.push (PySem.W.kdv_tup us)).push (PySem.HandSPX.excO C hp.objs.size)).get? (hp.objs.size + 1) = some (PySem.HandSPX.excO C hp.objs.size) := by heap_get
  have I2 : Inv X pins σ (upd H1 (hp.objs.size + 1) (exo (hp.objs.size + 1) C none)) ⟨(hp.push (PySem.W.kdv_tup us)).push (PySem.HandSPX.excO C hp.objs.size), g, dr, tk, os⟩ :=
    I1.laid (t' := tk) (a := hp.objs.size + 1) (o := exo (hp.objs.size + 1) C none) kk hsz (exo_ok hget)
  have r2 : Vals (V.ref (hp.objs.size + 1) :: (vs ++ dvs)) (Value.ref (hp.objs.size + 1) :: (us ++ ds)) := .cons rfl (r1.append hd)
  have hl : (Value.ref (hp.objs.size + 1) :: us ++ ds).length = ps.length := by
    have e := r2.length
    rw [F1.len _ _ _ _ hq] at e
    exact e.symm
  have hus : us.length ≤ sizeLine := by
    rw [← Paired.length r1, sizeLine_eq]
    omega
  refine wpAny_call (PySem.HandSPX.call_own F.excBase_ValueError (fun Y => PySem.HandSPX.refsVE_contains Y bm hbm) (I1.kIn _ _ hC) (PySem.W.looks_findIn I1.kIn iC) (fun self => PySem.W.bind_fn I1.kIn self tI) hus
    (codeAny_mono (F1.run _ X.stack _ _ ⟨Value.ref (hp.objs.size + 1) :: us, []⟩ (Value.ref (hp.objs.size + 1) :: (us ++ ds)) _ _ (fun _ _ _ => False) (hr.make C us []) (I2.env0.make C us []) (hb _ (Value.ref (hp.objs.size + 1) :: us) I2.kIn hl) r2 hq) fun r s' hq' => ?_))
  cases r with
  | error er => exact hx pins σ _ _ er s' I2 hq'
  | ok fl =>
    cases fl with
    | ret u =>
      obtain ⟨v, H3, I3, rv, ev, q3⟩ := I2.after hq'
      subst ev
      exact ⟨rv, ⟨V.ref (hp.objs.size + 1), H3, I3, rfl, q3⟩⟩
    | next => exact False.elim hq'
    | brk => exact False.elim hq'
    | cont => exact False.elim hq'
theorem pe_exc {C : Addr} (T : OexC X.K C) (iC : PySem.W.findIn X.K (.ref C) "__init__" = some (some (.ref fI))) (tI : PySem.W.typeIn X.K (.ref fI) = some (.type "function"))
    (F1 : FnOk X.prog X.w X.K X.mg X.base CX k fI fd ps sp) (hr : Room (k + 1) X.A) (hb : Binds X.K fd ps ds) (hd : Vals dvs ds) (hx : Passes CX X (fun _ _ _ => False)) (hg : Gl X x) (hm : X.mg x = some (.ref C)) (ha : PA X (e :: es) t)
    (hdb : (x == ("__debug__" : Str)) = false := by decide) (he : starEach (e :: es) X.env = (false, eval e X.env) :: starEach es X.env := by rfl) (hpl : (backTo pos (starEach es X.env)).any (·.1) = false := by rfl) :
    PE X (.Call (.Name x p) (e :: es) [] pos) (tExc C sp dvs t) := by
  refine ⟨fun pins s σ H Q I h => ?_⟩
  refine wpAny_Call_Name_kw (ld_glob I hg hm ?_ hdb)
  refine PySem.W.callWith_K (h₀ := X.base) I.ok.mod.kin T.kC (thn (ha.run pos pins s σ H _ I h) fun us s1 ⟨vs, H1, I1, r1, hz, q1⟩ => ⟨I1.kIn, ?_⟩) he hpl
  exact run_exc T iC tI F1 hr hb hd hx I1 r1 hz q1
theorem pe_exc0 {C : Addr} (T : OexC X.K C) (iC : PySem.W.findIn X.K (.ref C) "__init__" = some (some (.ref fI))) (tI : PySem.W.typeIn X.K (.ref fI) = some (.type "function"))
    (F1 : FnOk X.prog X.w X.K X.mg X.base CX k fI fd ps sp) (hr : Room (k + 1) X.A) (hb : Binds X.K fd ps ds) (hd : Vals dvs ds) (hx : Passes CX X (fun _ _ _ => False)) (hg : Gl X x) (hm : X.mg x = some (.ref C))
    (hdb : (x == ("__debug__" : Str)) = false := by decide) : PE X (.Call (.Name x p) [] [] pos) (tExc C sp dvs tNil) := by
  refine ⟨fun pins s σ H Q I h => ?_⟩
  refine wpAny_Call_Name_kw (ld_glob I hg hm ?_ hdb)
  obtain ⟨hz, q1⟩ := h
  exact PySem.W.callWith_K0 I.kIn T.kC (run_exc (us := []) T iC tI F1 hr hb hd hx I .nil hz q1)
end
/-! ### an own exception that is held: its fields, its class -/
/-- what the class at D must say of reading an instance's attributes -/
structure ExR (K : PySem.W.Frag) (D : Addr) : Prop where
  ga : PySem.W.findIn K (.ref D) "__getattribute__" = some (some (.builtin "BaseException.__getattribute__"))
  gg : PySem.W.findIn K (.ref D) "__getattr__" = some none
  sb : PySem.W.subIn K (.ref D) (.type "BaseException") = some true
  hd : PySem.W.hasDictIn K D = true
  cl : PySem.W.findIn K (.ref D) "__class__" = some (some (.builtin "object.__class__"))
  gt : PySem.W.specialIn K (.builtin "object.__class__") "__get__" = some (some (.builtin "getset_descriptor.__get__"))
  tk : PySem.W.takesIn K (.builtin "object.__class__") = some true
  ob : PySem.W.mroIn K D (.type "object") = some true
def tExF (K : PySem.W.Frag) (f : Str) (te : TE) : TE := fun σ H Q => te σ H fun x H1 => ∃ (a D dx : Addr) (fs : List (Str × V)) (v : V), x = .ref a ∧ H1 a = some (exo a D (some dx)) ∧ H1 dx = some (exd dx fs) ∧ ExR K D ∧ PySem.W.findIn K (.ref D) f = some none ∧ fs.lookup f = some v ∧ Q v H1
section
variable {X : Cx} {f : Str} {e : Expr} {te : TE} {pos : Pos}
theorem inst_of {pins : List (Addr × Obj)} {σ : L2.St} {H : Hp} {s : Shared} {a D dx : Addr} {fs : List (Str × V)} (I : Inv X pins σ H s) (ha : H a = some (exo a D (some dx))) (hx : H dx = some (exd dx fs)) :
    ∃ (ox od : Obj) (mA : Str → Option Value), PySem.W.InstAt s.heap a ox D (some od) ∧ (∀ g, PySem.W.lookIn g od = some (mA g)) ∧ ∀ g, RelO (fs.lookup g) (mA g) := by
  obtain ⟨t1, ho⟩ := exo_at I.hok ha
  obtain ⟨mA, hn, hr⟩ := exd_at I.hok hx
  obtain ⟨od, hod, hl⟩ := lookIn_ns hn
  exact ⟨_, od, mA, ⟨ho, rfl, rfl, hod⟩, hl, hr⟩
theorem pe_exf (he : PE X e te) (hb : attributeBase e f X.env (eval e X.env) = eval e X.env := by rfl) : PE X (.Attribute e f pos) (tExF X.K f te) := by
  refine ⟨fun pins s σ H Q I h => attr_of hb (thn (he.run pins s σ H _ I h) fun u s1 hh => ?_)⟩
  obtain ⟨x, H1, I1, rx, a, D, dx, fs, v, rfl, ha, hx, T, nf, lf, q⟩ := hh
  cases rx
  obtain ⟨ox, od, mA, J, hl, hr⟩ := inst_of I1 ha hx
  obtain ⟨u, hu, ru⟩ := RelO.some_of (v := v) (o := mA f) (by rw [← lf]; exact hr f)
  exact HandSPX.exc_get I1.kIn J T.ga T.gg T.sb (PySem.W.findObj_own T.hd nf rfl (by rw [hl, hu])) (handed_of ru) ⟨v, H1, I1.tok _, ru, q⟩
end
/-- e.__class__ of such an instance -/
theorem class_of {prog : Program} {w : World} {A : Around} {E : Value → Shared → Prop} {K : PySem.W.Frag} {x D : Addr} {ox : Obj} {od : Option Obj} {hp : Heap} {gs : Array GenState} {dr : Drawn} {t : Nat} {os : OsState} {Q : Option Value → Shared → Prop} (T : ExR K D) (X : K.In hp) (I : PySem.W.InstAt hp x ox D od)
    (q : Q (some (.ref D)) ⟨hp, gs, dr, t + 1, os⟩) : wpAny (model prog w) A (getAttr? (.ref x) "__class__") Q E ⟨hp, gs, dr, t, os⟩ := by
  have found : PySem.W.findObj K D od "__class__" = some (.bind (.builtin "getset_descriptor.__get__") (.builtin "object.__class__")) := by
    obtain ⟨cd, hc, _⟩ := PySem.W.any_some T.hd
    unfold PySem.W.findObj
    rw [hc, Option.bind_some, T.cl, Option.bind_some]
    simp [T.gt, T.tk]
  have lT := I.type (M := model prog w)
  have lG := PySem.W.looks_findIn (M := model prog w) X T.ga
  have lF := PySem.W.looks_find (M := model prog w) X I found
  have isB : PySem.W.Looks (model prog w) hp (isInstance (.ref x) (.type "BaseException")) true := lT.andThen (PySem.W.looks_subIn X T.sb)
  have other : (Value.builtin "BaseException.__getattribute__" == Value.builtin "object.__getattribute__") = false := by decide +kernel
  -- the look for the hook, then BaseException.__getattribute__ itself
  have inner : wpAny (model prog w) A.in1 (Builtin.«object.__getattribute__» ⟨[.ref x, .str "__class__" t], []⟩) (fun fin s' => fin = .done (.ret (.ref D)) ∧ s' = ⟨hp, gs, dr, t + 1, os⟩) (fun _ _ => False) ⟨hp, gs, dr, t + 1, os⟩ := by
    unfold Builtin.«object.__getattribute__»
    refine wpAny_bind (wpAny_of_eq (a := ((Value.ref x : Value), [Value.str "__class__" t])) (by first | rfl | (simp only [slotArgs]; rfl)) (wpAny_bind (wpAny_pure (wpAny_bind (lT.at (wpAny_bind (lF.at ?_)))))))
    show wpAny _ _ (holding [Value.builtin "object.__class__"] (call (.builtin "getset_descriptor.__get__") [.builtin "object.__class__", .ref x, .ref D]) >>= ret) _ _ _
    refine wpAny_bind (wpAny_holding (wpAny_call (PySem.W.class_get (s := ⟨hp, gs, dr, t + 1, os⟩) (ox := ox) (od := od) X I T.ob ?_)))
    exact wpAny_pure ⟨rfl, rfl⟩
  unfold getAttr? getAttrBy? getAttrBy
  refine wpAny_bind (wpAny_mkText (wpAny_bind (wpAny_attempt (wpAny_holding (wpAny_bind (lT.at (wpAny_bind (lG.at ?_))))))))
  have c1 : (onTheHeap (Value.ref D) && Value.builtin "BaseException.__getattribute__" == Value.builtin "object.__getattribute__") = false := by
    rw [other]
    rfl
  show wpAny _ _ (if (onTheHeap (Value.ref D) && Value.builtin "BaseException.__getattribute__" == Value.builtin "object.__getattribute__") = true then _ else _) _ _ _
  rw [c1, if_neg Bool.false_ne_true]
  unfold getAttrByItsOwn hookBefore
  refine wpAny_bind ?_
  rw [if_pos (show onTheHeap (Value.ref D) = true from rfl)]
  refine (PySem.W.looks_findIn (M := model prog w) X T.gg).at (wpAny_bind (wpAny_attempt (wpAny_holding ?_)))
  unfold callGetattribute
  rw [show (false && onTheHeap (Value.builtin "BaseException.__getattribute__")) = false from rfl, if_neg Bool.false_ne_true]
  unfold boundAndCalled
  rw [PySem.F.excAttr_ValueError.ga.bind (.ref x)]
  refine wpAny_bind (wpAny_pure ?_)
  show wpAny _ _ (call (.builtin "BaseException.__getattribute__") [.ref x, .str "__class__" t]) _ _ _
  refine wpAny_call (codeAny_call_builtin PySem.F.excAttr_ValueError.ga.plain PySem.F.entry_bexc_ga ?_)
  refine @PySem.W.check_slot (model prog w) _ _ ⟨hp, gs, dr, t + 1, os⟩ "BaseException.__getattribute__" "BaseException" "__getattribute__" (.ref x) [.str "__class__" t] [] _ (by decide +kernel) (by decide +kernel) isB (PySem.F.args_bexc_ga (.ref x) (.str "__class__" t)) ?_
  refine wpAny_mono inner (fun fin s' ⟨e1, e2⟩ => ?_) fun _ _ z => z.elim
  subst e1 e2
  show wpAny _ _ (handedOut (.ref D)) _ _ _
  rw [PySem.W.handedOut_of (v := .ref D) rfl]
  first
    | exact wpAny_pure (wpAny_pure q)
    | exact wpAny_pure q
    | exact wpAny_pure (wpAny_bind (wpAny_pure (wpAny_pure q)))
theorem kitx_exo {K : PySem.W.Frag} {x D : Addr} {ox : Obj} {od : Option Obj} (T : ExR K D) : PySem.W.KitX K (.ref x) (.ref D) (fun h => PySem.W.InstAt h x ox D od) where
  ty := fun _ _ _ I => I.type
  it := fun M h X _ => by
    obtain ⟨cd, hc, _⟩ := PySem.W.any_some T.hd
    unfold PySem.W.clsIn at hc
    split at hc
    · rename_i oc dd cd' sl ho
      intro A1 Q1 E1 s1 kp q
      unfold isType loadHead
      exact wpAny_bind (wpAny_loadPart (kp _ _ (X _ _ ho)) (wpAny_pure q))
    · cases hc
  ne := fun h tp dd its n sl X htp => by
    cases hb : (Value.ref D == Value.ref tp) with
    | false => rfl
    | true =>
      have e : D = tp := Value.ref.inj (beq_iff_eq.mp hb)
      subst e
      obtain ⟨cd, hc, _⟩ := PySem.W.any_some T.hd
      unfold PySem.W.clsIn at hc
      split at hc
      · rename_i oc dd2 cd' sl2 ho
        have z := X _ _ ho
        rw [htp] at z
        cases z
      · cases hc
  ca := fun {prog w A E Q s} X I q => by
    obtain ⟨hp, gs, dr, t, os⟩ := s
    exact class_of T X I q
/-- a made exception of the class at D: with its dict at some dx, or without one -/
def ExcAt (H : Hp) (a D : Addr) : Prop := H a = some (exo a D none) ∨ ∃ (dx : Addr) (fs : List (Str × V)), H a = some (exo a D (some dx)) ∧ H dx = some (exd dx fs)
def rIsX (K : PySem.W.Frag) : List V → Hp → VK → Prop := fun xs H Q => ∃ (a D : Addr) (c : V) (cv : Value) (b : Bool), xs = [.ref a, c] ∧ ExcAt H a D ∧ ExR K D ∧ ClsV c cv ∧ PySem.W.kitOne K (.ref D) cv = some b ∧ Q (.bl b) H
theorem call_isx {X : Cx} : CallR X (.builtin "isinstance") (rIsX X.K) := by
  intro pins s σ H xs us Q I r h
  obtain ⟨a, D, c, cv, b, rfl, ha, T, hc, hk, q⟩ := h
  obtain ⟨u1, u2, rfl, r1, r2⟩ := vals2 r
  cases (show u1 = Value.ref a from r1)
  have e := hc.eq r2
  subst e
  have J : ∃ (ox : Obj) (od : Option Obj), PySem.W.InstAt s.heap a ox D od := by
    rcases ha with ha | ⟨dx, fs, ha, hx⟩
    · obtain ⟨t1, ho⟩ := exo_at I.hok ha
      exact ⟨_, none, ho, rfl, rfl, trivial⟩
    · obtain ⟨ox, od, _, J, _⟩ := inst_of I ha hx
      exact ⟨ox, some od, J⟩
  obtain ⟨ox, od, J⟩ := J
  exact PySem.W.kia_one (kitx_exo (ox := ox) (od := od) T) I.kIn J hk (fun z => nomatch z) fun tk => ⟨.bl b, H, I.tok tk, rfl, q⟩
end Sl
/-! ## SlKw -/
set_option Elab.async false
set_option linter.all false
set_option maxRecDepth 100000
set_option maxHeartbeats 4000000
namespace Sl
open PySem PySem.Spec PyProof.Rows L2
section
variable {prog : Program} {w : World} {A : Around} {E : Value → Shared → Prop} {R : Result → Shared → Prop} {h : Heap} {g : Array GenState} {d : Drawn} {t : Nat} {os : OsState}
variable {nm q : Str} {C N : Addr} {bs bm bmB : List Value} {hdct : Bool} {sn : List Str} {sub : List Value} {ab : Bool} {col : Option Bool} {dd : Option Addr} {k0 k1 k2 k3 k5 : Option Value} {B newId initId : String}
theorem kw_tc {kw : List (Str × Value)} {Q : Unit → Shared → Prop} (hC : h.get? C = some (excClassObj nm q C N bs bm hdct sn sub ab col dd k0 k1 k2 k3 k5 newId)) (hq : Q () ⟨h, g, d, t, os⟩) :
    wpAny (model prog w) A (checkBuiltinCall "type.__call__" ⟨[.ref C], kw⟩) Q E ⟨h, g, d, t, os⟩ := by
  have f := tc_sub
  have ht : (⟨h, g, d, t, os⟩ : Shared).TypeIs (.ref C) "type" := ⟨_, hC, rfl⟩
  simp only [checkBuiltinCall, tc_kind, tc_split]
  repeat (any_goals (first | assumption | with_reducible refine wpAny_loadPart_at hC ?_ | with_reducible refine wpAny_onRaise ?_ | with_reducible refine wpAny_map ?_ | wp_step))
theorem kw_check_new (F : ExcBaseFacts B newId initId bmB) (hT : ∀ Y : String, bm.contains (.type Y) = bmB.contains (.type Y)) {kw : List (Str × Value)} {Q : Unit → Shared → Prop}
    (hC : h.get? C = some (excClassObj nm q C N bs bm hdct sn sub ab col dd k0 k1 k2 k3 k5 newId)) (hq : Q () ⟨h, g, d, t, os⟩) : wpAny (model prog w) A (checkBuiltinCall newId ⟨[.ref C], kw⟩) Q E ⟨h, g, d, t, os⟩ := by
  have isSub : (Value.ref C :: bm).contains (.type B) = true := by rw [List.contains_cons, hT, F.hasB, Bool.or_true]
  have noS := F.noStar
  simp only [checkBuiltinCall, F.newKind, F.newSplit, F.newRow]
  repeat (first | refine wpAny_loadPart_at hC ?_ | (refine wpAny_isSubtype_exc hC ?_; rw [isSub]) | refine wpAny_staticBase_exc hC ?_ | refine wpAny_madeBy_exc hC ?_ | simp only [bne_self_eq_false, Bool.false_eq_true, if_false] | wp_step)
  exact hq
theorem kw_new (F : ExcBaseFacts B newId initId bmB) (hT : ∀ Y : String, bm.contains (.type Y) = bmB.contains (.type Y)) {kw : List (Str × Value)}
    (hC : h.get? C = some (excClassObj nm q C N bs bm hdct sn sub ab col dd k0 k1 k2 k3 k5 newId))
    (hq : R (.ok (.ret (.ref (h.objs.size + 1)))) ⟨(h.push (PySem.W.kdv_tup [])).push (PySem.HandSPX.excO C h.objs.size), g, d, t, os⟩) : codeAny (model prog w) A (.builtin newId ⟨[.ref C], kw⟩) R ⟨h, g, d, t, os⟩ := by
  have ends := F.ends
  have c1 : (Value.ref C :: bm).contains (.type B) = true := by rw [List.contains_cons, hT, F.hasB, Bool.or_true]
  have c2 : (Value.ref C :: bm).contains (.type "AttributeError") = false := by rw [List.contains_cons, hT, F.noAttr]; rfl
  have c3 : (Value.ref C :: bm).contains (.type "NameError") = false := by rw [List.contains_cons, hT, F.noName]; rfl
  have small : ([] : List Value).length ≤ sizeLine := Nat.zero_le _
  refine codeAny_builtinAt F.entry ?_
  unfold Builtin.«BaseException.__new__»
  refine PySem.wpAt_bind ?_
  show PySem.wpAt _ _ _ (stack >>= _) _ _ _
  refine PySem.wpAt_bind (PySem.wpAt_stack fun p below => PySem.wpAt_of_wpAny ?_)
  wp_walk
  refine PySem.wpAt_of_wpAny ?_
  rw [F.owner]
  repeat (first | with_reducible refine wpAny_madeHere_exc F.canon hC ?_ | with_reducible refine wpAny_loadPart_at hC ?_ | (with_reducible refine wpAny_isSubtype_exc hC ?_; first | rw [c1] | rw [c2] | rw [c3]) | wp_step)
  show R _ _
  rw [Heap.size_push]
  exact hq
theorem kw_call (F : ExcBaseFacts B newId initId bmB) (hT : ∀ Y : String, bm.contains (.type Y) = bmB.contains (.type Y)) {kw : List (Str × Value)} {fI : Addr} {Q : Fin → Shared → Prop}
    (hC : h.get? C = some (excClassObj nm q C N bs bm hdct sn sub ab col dd k0 k1 k2 k3 k5 newId))
    (hi : PySem.W.Looks (model prog w) h (typeLookup (.ref C) "__init__") (some (.ref fI))) (hb : ∀ self, PySem.W.Looks (model prog w) h (bindSpecial (.ref fI) self) (.ref fI, [self]))
    (hq : codeAny (model prog w) A (.call (.ref fI) ⟨[.ref (h.objs.size + 1)], kw⟩)
      (fun r s' => match r with | .ok (.ret v) => v = .none ∧ Q (.done (.ret (.ref (h.objs.size + 1)))) s' | .ok _ => False | .error e => E e s')
      ⟨(h.push (PySem.W.kdv_tup [])).push (PySem.HandSPX.excO C h.objs.size), g, d, t, os⟩) :
    wpAny (model prog w) A (Builtin.«type.__call__» ⟨[.ref C], kw⟩) Q E ⟨h, g, d, t, os⟩ := by
  repeat (first | with_reducible refine wpAny_loadPart_at hC ?_ | with_reducible refine wpAny_madeBy_exc hC ?_ | wp_step)
  refine codeAny_call_builtin_code (Code.quiet_builtin _ F.quiet) (kw_check_new F hT hC ?_)
  refine kw_new F hT hC ?_
  show wpAny _ _ _ _ _ _
  have kp : ∀ b o, h.get? b = some o → ((h.push (PySem.W.kdv_tup [])).push (PySem.HandSPX.excO C h.objs.size)).get? b = some o := fun b o e => Heap.get?_push_of_some _ (Heap.get?_push_of_some _ e)
  have cC := kp _ _ hC
  have own : ((h.push (PySem.W.kdv_tup [])).push (PySem.HandSPX.excO C h.objs.size)).get? (h.objs.size + 1) = some (PySem.HandSPX.excO C h.objs.size) := by heap_get
  have self : (Value.ref C :: bm).contains (.ref C) = true := by simp
  unfold isInstance
  repeat (first | with_reducible refine wpAny_loadPart_at own ?_ | (with_reducible refine wpAny_isSubtype_exc cC ?_; rw [self]) | wp_step)
  show wpAny _ _ (typeLookup (.ref C) _) _ _ _
  refine (hi.keeps kp).at (wpAny_holding (wpAny_bind (((hb (.ref (h.objs.size + 1))).keeps kp).at ?_)))
  refine wpAny_bind (wpAny_call (codeAny_mono hq fun r s' z => ?_))
  rcases r with e | (v | _ | _ | _) <;> first | exact z | exact z.elim | skip
  obtain ⟨rfl, z⟩ := z
  first
    | exact wpAny_pure (wpAny_pure z)
    | (wp_walk; exact z)
end
section
variable {X : Cx} {CX : CXT} {k : Nat} {fI C : Addr} {fd : FuncData} {ps ks : List Str} {sp : Sp} {x : Str} {p pos : Pos} {kws : List Keyword} {tk : TA} {g : List Value → List Value → List Value} {gV : List V → List V → List V}
/-- C(k = v, ..), an own exception, as a value: keywords alone -/
def tExcK (C : Addr) (m : Nat) (sp : Sp) (gV : List V → List V → List V) (tk : TA) : TE := fun σ H Q => tk σ H fun zs H1 => zs.length = m ∧ ∀ a, H1 a = none → sp (gV [.ref a] zs) (upd H1 a (exo a C none)) (fun v H2 => v = .non ∧ Q (.ref a) H2) (fun _ _ _ => False)
theorem pe_excK (T : OexC X.K C) (iC : PySem.W.findIn X.K (.ref C) "__init__" = some (some (.ref fI))) (tI : PySem.W.typeIn X.K (.ref fI) = some (.type "function"))
    (F1 : FnOk X.prog X.w X.K X.mg X.base CX k fI fd ps sp) (hr : Room (k + 1) X.A) (hb : KBn X.K fd ps 1 ks g gV) (hx : Passes CX X (fun _ _ _ => False)) (hg : Gl X x) (hm : X.mg x = some (.ref C)) (hkw : PK X kws tk)
    (hall : (backToKw pos (keywordEach kws X.env)).all (·.1.isSome) = true := by rfl) (hks : (backToKw pos (keywordEach kws X.env)).filterMap (·.1) = ks := by rfl) (hdb : (x == ("__debug__" : Str)) = false := by decide)
    (hpl : ((backTo pos (starEach [] X.env)).any (·.1) || (backToKw pos (keywordEach kws X.env)).any (·.1.isNone)) = false := by rfl) :
    PE X (.Call (.Name x p) [] kws pos) (tExcK C ks.length sp gV tk) := by
  refine ⟨fun pins s σ H Q I h => ?_⟩
  refine wpAny_Call_Name_kw (ld_glob I hg hm ?_ hdb)
  refine PySem.W.callWith_KW0 (h₀ := X.base) I.ok.mod.kin T.kC hall (thn (hkw.run pos pins s σ H _ I h) fun ws s1 ⟨zs, H1, I1, rz, lz, q1⟩ => ⟨I1.kIn, ?_⟩) hpl
  rw [hks]
  obtain ⟨nm, q, N, bs, bm, sn, sub, ab, col, dd, k0, k1, k2, k3, k5, hC, hbm⟩ := T.cls
  obtain ⟨hp, gs, dr, tk', os⟩ := s1
  have hq := q1 (hp.objs.size + 1) (I1.hok.fresh (Nat.le_succ _))
  have stays : ∀ b o, hp.get? b = some o → ((hp.push (PySem.W.kdv_tup [])).push (PySem.HandSPX.excO C hp.objs.size)).get? b = some o := fun b o e => Heap.get?_push_of_some _ (Heap.get?_push_of_some _ e)
  have mine : ((hp.push (PySem.W.kdv_tup [])).push (PySem.HandSPX.excO C hp.objs.size)).get? (hp.objs.size + 1) = some (PySem.HandSPX.excO C hp.objs.size) := by heap_get
  have I2 := I1.laid (t' := tk') (a := hp.objs.size + 1) (o := exo (hp.objs.size + 1) C none) stays (Nat.le_succ _) (exo_ok mine)
  have r2 := hb.rel (vs := [V.ref (hp.objs.size + 1)]) (us := [Value.ref (hp.objs.size + 1)]) (.cons rfl .nil) rz
  have lw : ws.length = ks.length := rz.length.symm.trans lz
  have cTy : (⟨hp, gs, dr, tk', os⟩ : Shared).TypeIs (.ref C) "type" := ⟨_, I1.kIn _ _ hC, rfl⟩
  have f1 := PySem.tc_lookup
  have f2 := PySem.tc_bind (.ref C)
  refine wpAny_call (codeAny_of_tree ?_)
  show wpAny _ _ (callAny (.ref C) ⟨[], ks.zip ws⟩) _ _ _
  have hC' := I1.kIn _ _ hC
  repeat (any_goals (first | assumption | with_reducible refine wpAny_loadPart_at hC' ?_ | wp_step))
  refine ⟨rfl, ?_⟩
  refine codeAny_call_builtin_at (Code.quiet_builtin _ (by decide +kernel)) PySem.entry_typeCall (kw_tc hC' (kw_call F.excBase_ValueError (fun Y => PySem.HandSPX.refsVE_contains Y bm hbm) hC' (PySem.W.looks_findIn I1.kIn iC) (fun self => PySem.W.bind_fn I1.kIn self tI) ?_))
  refine codeAny_mono (F1.run _ X.stack _ _ ⟨[Value.ref (hp.objs.size + 1)], ks.zip ws⟩ (g [Value.ref (hp.objs.size + 1)] ws) _ _ (fun _ _ _ => False) (hr.make C [] (ks.zip ws)) (I2.env0.make C [] (ks.zip ws)) (hb.to _ [Value.ref (hp.objs.size + 1)] ws I2.kIn rfl lw) r2 hq) fun r s' hq' => ?_
  cases r with
  | error er => exact hx pins σ _ _ er s' I2 hq'
  | ok fl =>
    cases fl with
    | ret u =>
      obtain ⟨v, H3, I3, rv, ev, q3⟩ := I2.after hq'
      subst ev
      exact ⟨rv, ⟨V.ref (hp.objs.size + 1), H3, I3, rfl, q3⟩⟩
    | next => exact False.elim hq'
    | brk => exact False.elim hq'
    | cont => exact False.elim hq'
end
/-- keywords of a def without defaults: one positional value (self), the others by name in the parameters' order -/
theorem kbn_self {K : PySem.W.Frag} {x qual : Str} {params : Arguments} {body : List Stmt} {scope : Scope} {f : Addr} {fd : FuncData} {ps ks : List Str} (F : FunD K x qual params body scope [] [] f fd)
    (h : ∀ (kV doc pm : Value) (an : Option Addr) (cdv ct : Value) (us ws : List Value), us.length = 1 → ws.length = ks.length → bindArgs (PySem.W.fnOf x qual params body scope .none kV doc pm an cdv ct) ⟨us, ks.zip ws⟩ = pure (ps.zip (us ++ ws))) :
    KBn K fd ps 1 ks (fun us ws => us ++ ws) (fun vs zs => vs ++ zs) := by
  obtain ⟨oc, od, dV, kV, doc, pm, an, cdv, ct, osl, rfl, lk, hcd, hD, hK⟩ := F.ex
  rcases hD with ⟨_, rfl⟩ | ⟨e, _⟩
  · exact ⟨fun s us ws X l1 l2 => .of_eq (h kV doc pm an cdv ct us ws l1 l2), fun r1 r2 => r1.append r2⟩
  · exact absurd rfl e
end Sl
/-! ## SlHead -/
set_option Elab.async false
set_option linter.all false
set_option maxRecDepth 100000
set_option maxHeartbeats 4000000
/-! a head's Hook: the defs of the top, facts by names, and any further looks at the written part (the statics of C within) -/
namespace Sl
open PySem PySem.Spec PyProof.Rows L2 He
def asS (g : Addr → Option Obj) (n : Nat) : List Addr := PySem.cStatics :: He.asD g n
abbrev AlS : Type := He.AlD × Bool
def obsS (fa : List Fa) (fn : List DefD) (ex : List (PySem.W.Frag → Bool)) (K : PySem.W.Frag) : AlS := (obsD fa fn K, ex.all fun e => e K)
def obsSG (n : Nat) (fa : List Fa) (fn : List DefD) (ex : List (PySem.W.Frag → Bool)) (g : Addr → Option Obj) : AlS := obsS fa fn ex (frG g (asS g n))
def valS (fn : List DefD) : AlS := (valD fn, true)
def SaysS (fa : List Fa) (fn : List DefD) (ex : List (PySem.W.Frag → Bool)) (K : PySem.W.Frag) : Prop := obsS fa fn ex K = valS fn
def hookS (n : Nat) (fa : List Fa) (fn : List DefD) (ex : List (PySem.W.Frag → Bool)) : PySem.W.Hook where
  α := AlS
  obs := fun s => obsSG n fa fn ex s.heap.get?
  val := fun _ => valS fn
  says := fun _ h => ∃ K : PySem.W.Frag, K.In h ∧ SaysS fa fn ex K
  of := fun _ _ e => ⟨_, frG_in, e⟩
  keeps := fun _ _ _ ⟨K, hK, c⟩ k => ⟨K, PySem.W.Frag.In.keeps hK k, c⟩
theorem obsSG_eq {n : Nat} {fa : List Fa} {fn : List DefD} {ex : List (PySem.W.Frag → Bool)} {g : Addr → Option Obj} {s : Shared} (h : ∀ a, g a = s.heap.get? a) : obsSG n fa fn ex g = (hookS n fa fn ex).obs s := by
  have e : g = s.heap.get? := funext h
  rw [e] <;> rfl
theorem SaysS.d {fa : List Fa} {fn : List DefD} {ex : List (PySem.W.Frag → Bool)} {K : PySem.W.Frag} (c : SaysS fa fn ex K) : SaysD fa fn K := congrArg (fun z : AlS => z.1) c
theorem SaysS.x {fa : List Fa} {fn : List DefD} {ex : List (PySem.W.Frag → Bool)} {K : PySem.W.Frag} (c : SaysS fa fn ex K) (i : Nat) {e : PySem.W.Frag → Bool} (h : ex[i]? = some e := by rfl) : e K = true := by
  have c1 : (ex.all fun e => e K) = true := congrArg (fun z : AlS => z.2) c
  exact List.all_eq_true.mp c1 e (List.mem_of_getElem? h)
/-! ### an own exception's class -/
def oexB (K : PySem.W.Frag) (C : Addr) : Bool := match K.lookup C with
  | some ⟨.type t, _, .cls cd, sl⟩ => decide (t = "type") && (match cd.mro, sl.toList with
    | .ref C' :: bm, [_, _, _, _, some (.builtin n), _] => decide (C' = C) && (decide (n = "ValueError.__new__") && (!cd.hasDel && (cd.hasDict && PySem.HandSPX.refsVE bm)))
    | _, _ => false)
  | _ => false
theorem oexB_ok {K : PySem.W.Frag} {C : Addr} (h : oexB K C = true) : ∃ nm q N bs bm sn sub ab col dd k0 k1 k2 k3 k5, K.lookup C = some (excClassObj nm q C N bs bm true sn sub ab col dd k0 k1 k2 k3 k5 "ValueError.__new__") ∧ PySem.HandSPX.refsVE bm = true := by
  unfold oexB at h
  split at h
  · rename_i t dd cd sl ho
    obtain ⟨h1, h2⟩ := ba h
    have e1 : t = "type" := of_decide_eq_true h1
    subst e1
    split at h2
    · rename_i C' bm k0 k1 k2 k3 n k5 hm hs
      obtain ⟨a1, h3⟩ := ba h2
      obtain ⟨a2, h4⟩ := ba h3
      obtain ⟨a3, h5⟩ := ba h4
      obtain ⟨a4, a5⟩ := ba h5
      have e2 : C' = C := of_decide_eq_true a1
      have e3 : n = "ValueError.__new__" := of_decide_eq_true a2
      subst e2 e3
      obtain ⟨nm, bs, mro, ns, qn, hdct, sn, sub, ab, col, hdel⟩ := cd
      have e4 : mro = .ref C' :: bm := hm
      have e5 : hdct = true := a4
      have e6 : hdel = false := by
        cases hdel with
        | false => rfl
        | true => cases a3
      have e7 : sl = #[k0, k1, k2, k3, some (.builtin "ValueError.__new__"), k5] := by
        rw [← Array.toArray_toList (xs := sl), hs]
      subst e4 e5 e6 e7
      exact ⟨_, _, _, _, _, _, _, _, _, _, _, _, _, _, _, ho, a5⟩
    · cases h2
  · cases h
def excB (K : PySem.W.Frag) (C : Addr) : Bool := oexB K C && (eqO (PySem.W.findIn K (.ref C) "__setattr__") (some (some (.builtin "object.__setattr__"))) && (decide (PySem.W.subIn K (.ref C) (.type "BaseException") = some true) && (decide (PySem.W.typeIn K (.ref C) = some (.type "type")) && PySem.W.keepIn K (.ref C))))
theorem excB_ok {K : PySem.W.Frag} {C : Addr} (h : excB K C = true) : OexC K C := by
  obtain ⟨a1, h⟩ := ba h
  obtain ⟨a2, h⟩ := ba h
  obtain ⟨a3, h⟩ := ba h
  obtain ⟨a4, a5⟩ := ba h
  exact ⟨oexB_ok a1, eqO_ok a2, of_decide_eq_true a3, of_decide_eq_true a4, a5⟩
def exrB (K : PySem.W.Frag) (C : Addr) : Bool := eqO (PySem.W.findIn K (.ref C) "__getattribute__") (some (some (.builtin "BaseException.__getattribute__"))) && (eqO (PySem.W.findIn K (.ref C) "__getattr__") (some none) && (decide (PySem.W.subIn K (.ref C) (.type "BaseException") = some true) && (PySem.W.hasDictIn K C &&
  (eqO (PySem.W.findIn K (.ref C) "__class__") (some (some (.builtin "object.__class__"))) && (eqO (PySem.W.specialIn K (.builtin "object.__class__") "__get__") (some (some (.builtin "getset_descriptor.__get__"))) && (decide (PySem.W.takesIn K (.builtin "object.__class__") = some true) && decide (PySem.W.mroIn K C (.type "object") = some true)))))))
theorem exrB_ok {K : PySem.W.Frag} {C : Addr} (h : exrB K C = true) : ExR K C := by
  obtain ⟨a1, h⟩ := ba h
  obtain ⟨a2, h⟩ := ba h
  obtain ⟨a3, h⟩ := ba h
  obtain ⟨a4, h⟩ := ba h
  obtain ⟨a5, h⟩ := ba h
  obtain ⟨a6, h⟩ := ba h
  obtain ⟨a7, a8⟩ := ba h
  exact ⟨eqO_ok a1, eqO_ok a2, of_decide_eq_true a3, a4, eqO_ok a5, eqO_ok a6, of_decide_eq_true a7, of_decide_eq_true a8⟩
def iniB (K : PySem.W.Frag) (C : Addr) : Bool := eqO (PySem.W.findIn K (.ref C) "__init__") (some (some (.ref (ma K C "__init__")))) && decide (PySem.W.typeIn K (.ref (ma K C "__init__")) = some (.type "function"))
theorem iniB_ok {K : PySem.W.Frag} {C : Addr} (h : iniB K C = true) : PySem.W.findIn K (.ref C) "__init__" = some (some (.ref (ma K C "__init__"))) ∧ PySem.W.typeIn K (.ref (ma K C "__init__")) = some (.type "function") := by
  obtain ⟨a1, a2⟩ := ba h
  exact ⟨eqO_ok a1, of_decide_eq_true a2⟩
/-- an own error x without a field, with the field fld -/
def err0B (x : Str) (K : PySem.W.Frag) : Bool := excB K (ga K x) && (exrB K (ga K x) && iniB K (ga K x))
def errB (x fld : Str) (K : PySem.W.Frag) : Bool := err0B x K && eqO (PySem.W.findIn K (.ref (ga K x)) fld) (some none)
/-- a value read off a class -/
def clvB (K : PySem.W.Frag) (c : Value) (m : Str) (v : Value) : Bool := match PySem.W.findCls K c (.type "type") m with
  | some (.val u) => decide (u = v)
  | _ => false
theorem clvB_ok {K : PySem.W.Frag} {c : Value} {m : Str} {v : Value} (h : clvB K c m v = true) : PySem.W.findCls K c (.type "type") m = some (.val v) := by
  unfold clvB at h
  split at h
  · rename_i u e
    rw [e, of_decide_eq_true h]
  · cases h
def crdB (K : PySem.W.Frag) (C : Addr) : Bool := PySem.W.readsIn K C (.type "type") && eqO (PySem.W.specialIn K (.ref C) "__getattribute__") (some (some (.builtin "type.__getattribute__")))
theorem crdB_ok {K : PySem.W.Frag} {C : Addr} (h : crdB K C = true) : ClX.CRead K C (.type "type") := by
  obtain ⟨a1, a2⟩ := ba h
  exact ⟨a1, eqO_ok a2⟩
/-- each isinstance of the one kind, by the other -/
def kitB (as bs : List Str) (b : Nat → Nat → Bool) (K : PySem.W.Frag) : Bool := (as.zipIdx).all fun p => (bs.zipIdx).all fun q => decide (PySem.W.kitOne K (.ref (ga K p.1)) (.ref (ga K q.1)) = some (b p.2 q.2))
theorem kitB_ok {as bs : List Str} {b : Nat → Nat → Bool} {K : PySem.W.Frag} (h : kitB as bs b K = true) {i j : Nat} {x y : Str} (hi : as[i]? = some x) (hj : bs[j]? = some y) : PySem.W.kitOne K (.ref (ga K x)) (.ref (ga K y)) = some (b i j) := by
  have h1 := List.all_eq_true.mp h (x, i) (by rw [List.mk_mem_zipIdx_iff_getElem?]; exact hi)
  have h2 := List.all_eq_true.mp h1 (y, j) (by rw [List.mk_mem_zipIdx_iff_getElem?]; exact hj)
  exact of_decide_eq_true h2
def kitVB (as : List Str) (T : String) (b : Bool) (K : PySem.W.Frag) : Bool := as.all fun x => decide (PySem.W.kitOne K (.ref (ga K x)) (.type T) = some b)
theorem kitVB_ok {as : List Str} {T : String} {b : Bool} {K : PySem.W.Frag} (h : kitVB as T b K = true) {x : Str} (hx : x ∈ as) : PySem.W.kitOne K (.ref (ga K x)) (.type T) = some b := of_decide_eq_true (List.all_eq_true.mp h x hx)
end Sl
/-! ## SlSetDc -/
set_option Elab.async false
set_option linter.all false
set_option maxRecDepth 100000
set_option maxHeartbeats 4000000
namespace Sl
open PySem PySem.Spec PyProof.Rows L2
section
variable {X : Cx}
theorem sw_dc {ka va : Expr} {gg : List Comprehension} {sc : Scope} {pc pn : Pos} {z : Str} {ln : Nat} {en : Env} (h1 : en.scope.kind = .function) (h2 : en.scope.names.lookup z = some .local) (h3 : (pn.line == pc.line) = true)
    (h4 : (sc.names.any fun (n, k) => n == z && (k == .local || k == .cell)) = false) : swapsWith (.DictComp ka va gg sc pc) (some (.Name z pn)) ln en = pure true := by
  have q1 : en.kindOf z = some .local := h2
  have q2 : en.blockKind = .function := by
    unfold Env.blockKind
    rw [h1]
    rfl
  unfold swapsWith
  simp only [q2, q1, h4, Expr.pos, h3]
  rfl
/-- name = {..: .. for ..}, the name a local -/
theorem ps_setDc {i : Nat} {z : Str} {pz : Pos} {ka va tg iter : Expr} {ifs : List Expr} {sc : Scope} {own : List (Str × Nat)} {pc ps : Pos} {wi : TI} {g : TG} {tt : TT} {tk tv : TE} (calm : X.calm = true) (nn : X.N.Nodup) (hz : X.N[i]? = some z) (lz : X.env.scope.names.lookup z = some .local)
    (sw : swapsWith (.DictComp ka va [⟨tg, iter, ifs, 0⟩] sc pc) (some (.Name z pz)) ps.line X.env = pure true) (hi : PI X tg iter wi) (bo : BlkOk X.N X.env.scope sc own)
    (h1 : ∀ s H C cl fp, PG (X.blk s H sc (compEnvC sc cl C X.env) fp) tg g) (h2 : ∀ s H C cl fp, PTs (X.blk s H sc (compEnvC sc cl C X.env) fp) ifs tt)
    (h3 : ∀ s H C cl fp, PE (X.blk s H sc (compEnvC sc cl C X.env) fp) ka tk) (h4 : ∀ s H C cl fp, PE (X.blk s H sc (compEnvC sc cl C X.env) fp) va tv) (hf : ∀ x, foldedSetIterable iter X.env x = pure x := by intro _; rfl) :
    PS X (.Assign [.Name z pz] (.DictComp ka va [⟨tg, iter, ifs, 0⟩] sc pc) ps) (tAsg (tDc wi g tt tk tv (own.map (·.2))) (gName i)) := by
  refine ⟨fun pp st σ G D I q => ?_⟩
  rw [exec_Assign_Name_used _ _ _ _ sw]
  refine wpAny_bind (wpAny_standAt (wpAny_bind ?_))
  show wpAny _ X.A (do
    let _ ← comprehension (.DictComp ka va [⟨tg, iter, ifs, 0⟩] sc pc) sc X.env (firstIterPos [⟨tg, iter, ifs, 0⟩] pc) newDict false (eval iter X.env) (some (assign (.Name z pz) X.env))) _ _ st
  have q' : tDc wi g tt tk tv (own.map (·.2)) σ G (fun x G1 => gName i x σ G1 D.nx) := q
  refine wpAny_bind (thn (dc_core (Qf := fun _ st' => SP X pp D .next st') calm nn I hi bo h1 h2 h3 h4 hf q' fun L C st' m G' I' q2 hm fp => ?_) fun _ st' z2 => wpAny_pure (wpAny_pure z2))
  show wpAny _ _ (assign (.Name z pz) X.env (.ref L)) _ _ _
  refine wpAny_assign_Name (store_ok2 (v := V.ref L) I' nn hz (.inl lz) rfl (fun s2 I2 ⟨a, sb, ha⟩ => ?_) (.inr lz))
  obtain ⟨e0, e1, e2, e3, e4, e5⟩ := fp
  have nCa : C ≠ a := by
    rcases ha with w | w
    · rw [w]
      exact e1
    · exact fun e => e4 z a w e.symm
  refine ⟨m, hm.sameBut sb nCa, fun h9 sb9 => ?_⟩
  exact ⟨_, G', I2.turned (t' := s2.toks) (fun b o hb e => (sb9.2 b hb).trans e) e0 e1 e3 e4 e5, q2⟩
end
end Sl
/-! ## SlMeth -/
set_option Elab.async false
set_option linter.all false
set_option maxRecDepth 100000
set_option maxHeartbeats 4000000
namespace Sl
open PySem PySem.Spec PyProof.Rows L2
/-- a method of an own class that lets no exception out -/
structure CalM (P : Program) (w : World) (K : PySem.W.Frag) (mg : Str → Option Value) (base : Heap) (C : Addr) (k : Nat) (m : Str) (sp : Sp) : Prop where
  ex : ∃ (f : Addr) (fd : FuncData) (ps : List Str), Meth K C m f ∧ FnOk P w K mg base CX0 k f fd ps sp ∧ Binds K fd ps []
/-- a property of an own class -/
structure CalP (P : Program) (w : World) (K : PySem.W.Frag) (mg : Str → Option Value) (base : Heap) (C : Addr) (k : Nat) (m : Str) (sp : Sp) : Prop where
  ex : ∃ (p g : Addr) (fd : FuncData) (ps : List Str), PropOf K C m p g ∧ FnOk P w K mg base CX0 k g fd ps sp ∧ Binds K fd ps []
/-- an operator of an own class -/
structure OwnF (P : Program) (w : World) (K : PySem.W.Frag) (mg : Str → Option Value) (base : Heap) (C : Addr) (k : Nat) (m : Str) (sp : Sp) : Prop where
  ex : ∃ (f : Addr) (fd : FuncData) (ps : List Str), PySem.W.findIn K (.ref C) m = some (some (.ref f)) ∧ PySem.W.isFn K (.ref f) = true ∧ FnOk P w K mg base CX0 k f fd ps sp ∧ Binds K fd ps []
section
variable {X : Cx} {C : Addr} {k : Nat} {m : Str} {sp : Sp} {o e : Expr} {ta te : TE} {apos pos : Pos}
theorem pe_me0 (h : CalM X.prog X.w X.K X.mg X.base C k m sp) (c : Cls X.K C) (hr : Room k X.A) (he : PE X o ta)
    (ht : ∃ pl : Sem Bool, eval (.Call (.Attribute o m apos) [] [] pos) X.env = (do
      let ov ← eval o X.env
      standAt apos.atName
      let (f, first) ← holding [ov] (getMethod ov m pl)
      callWith pos f first (backTo pos (starEach [] X.env)) (backToKw pos (keywordEach [] X.env))) := by exact ⟨_, rfl⟩) : PE X (.Call (.Attribute o m apos) [] [] pos) (tMeth C m sp [] E0 ta tNil) := by
  obtain ⟨f, fd, ps, M, F, b⟩ := h.ex
  obtain ⟨pl, ht⟩ := ht
  exact pe_meth0 he c M F hr b .nil pass0 ht
theorem pe_me1 (h : CalM X.prog X.w X.K X.mg X.base C k m sp) (c : Cls X.K C) (hr : Room k X.A) (he : PE X o ta) (ha : PE X e te)
    (hst : starEach [e] X.env = (false, eval e X.env) :: starEach [] X.env := by rfl) (hpl : (backTo pos (starEach [] X.env)).any (·.1) = false := by rfl)
    (ht : ∃ pl : Sem Bool, eval (.Call (.Attribute o m apos) [e] [] pos) X.env = (do
      let ov ← eval o X.env
      standAt apos.atName
      let (f, first) ← holding [ov] (getMethod ov m pl)
      callWith pos f first (backTo pos (starEach [e] X.env)) (backToKw pos (keywordEach [] X.env))) := by exact ⟨_, rfl⟩) : PE X (.Call (.Attribute o m apos) [e] [] pos) (tMeth C m sp [] E0 ta (tCons te tNil)) := by
  obtain ⟨f, fd, ps, M, F, b⟩ := h.ex
  obtain ⟨pl, ht⟩ := ht
  exact pe_meth he c M F hr b .nil pass0 (pa_cons ha pa_nil hst) hst hpl ht
theorem pe_pr (h : CalP X.prog X.w X.K X.mg X.base C k m sp) (c : Cls X.K C) (hr : Room (k + 1) X.A) (he : PE X o ta) (hab : attributeBase o m X.env (eval o X.env) = eval o X.env := by rfl) : PE X (.Attribute o m pos) (tProp C sp [] E0 ta) := by
  obtain ⟨p, g, fd, ps, M, F, b⟩ := h.ex
  exact pe_prop he c M F hr b .nil pass0 hab
end
end Sl
/-! ## SlEq -/
set_option Elab.async false
set_option linter.all false
set_option maxRecDepth 100000
set_option maxHeartbeats 4000000
namespace Sl
open PySem PySem.Spec PyProof.Rows L2
/-- flat, or an object (then the very same one is meant) -/
def tame : V → Bool
  | .ref _ => true
  | v => flatB v
/-- xs != ys, two lists of the same tame items -/
def rNeS (K : PySem.W.Frag) : R2 := fun x y H Q => ∃ (a b : Addr) (xs : List V), x = .ref a ∧ y = .ref b ∧ SqL K H a xs ∧ SqL K H b xs ∧ (xs.all tame) = true ∧ Q (.bl false) H
theorem tame_same {A : Around} {s : Shared} {v : V} {u u' : Value} (r : RelV v u) (r' : RelV v u') (f : tame v = true) : SeqAt.EqAt A s u u' true := by
  cases v with
  | ref a =>
    cases (show u = Value.ref a from r)
    cases (show u' = Value.ref a from r')
    exact SeqAt.EqAt.same _
  | non => exact eqAt_same r r' rfl
  | bl b => exact eqAt_same r r' rfl
  | int i => exact eqAt_same r r' rfl
  | str z => exact eqAt_same r r' rfl
  | byt z => exact eqAt_same r r' rfl
  | flt z => cases f
  | ty z => cases f
theorem op_neS {X : Cx} (hu : X.A.units < cLine) : OpR X (compareOp .NotEq) (rNeS X.K) := by
  intro pins s σ H x y v u Q I rx ry h
  obtain ⟨a, b, xs, rfl, rfl, ha, hb, ht, q⟩ := h
  cases (show v = Value.ref a from rx)
  cases (show u = Value.ref b from ry)
  obtain ⟨us, r1, p1, _⟩ := I.list ha
  obtain ⟨ws, r2, p2, _⟩ := I.list hb
  have hsz : us.toArray.size = ws.toArray.size := by
    rw [List.size_toArray, List.size_toArray, ← r1.length, ← r2.length]
  have hall := List.all_eq_true.mp ht
  refine SeqAt.RcNeAt.lists (e := fun _ => true) p1.isList p2.isList hsz hu (fun j h1 h2 => ?_) X.prog X.w _ _ ?_
  · have j1 : j < xs.length := by
      rw [r1.length]
      simpa using h1
    obtain ⟨u1, e1, q1⟩ := r1.get (List.getElem?_eq_getElem j1)
    obtain ⟨u2, e2, q2⟩ := r2.get (List.getElem?_eq_getElem j1)
    have z := tame_same (A := X.A.in1) (s := s) q1 q2 (hall _ (List.getElem_mem j1))
    have k1 : us.toArray[j] = u1 := by
      have : us[j]? = some u1 := e1
      rw [List.getElem?_eq_getElem (by simpa using h1)] at this
      simpa using Option.some.inj this
    have k2 : ws.toArray[j] = u2 := by
      have : ws[j]? = some u2 := e2
      rw [List.getElem?_eq_getElem (by simpa using h2)] at this
      simpa using Option.some.inj this
    rw [k1, k2]
    exact z
  · rw [show ((List.range us.toArray.size).all fun _ => true) = true from List.all_eq_true.mpr fun _ _ => rfl]
    exact ⟨.bl false, H, I, rfl, q⟩
end Sl
/-! ## SlFs -/
set_option Elab.async false
set_option linter.all false
set_option maxRecDepth 100000
set_option maxHeartbeats 4000000
namespace Sl
open PySem PySem.Spec PyProof.Rows L2
/-! objects that stand, all of them apart from p -/
def Fs (p : Addr) (H : Hp) (L : List (Addr × HO)) : Prop := ∀ (i : Nat) (a : Addr) (o : HO), L[i]? = some (a, o) → a ≠ p ∧ H a = some o
theorem Fs.get {p : Addr} {H : Hp} {L : List (Addr × HO)} (F : Fs p H L) (i : Nat) {a : Addr} {o : HO} (e : L[i]? = some (a, o)) : H a = some o := (F i a o e).2
theorem Fs.ne {p : Addr} {H : Hp} {L : List (Addr × HO)} (F : Fs p H L) (i : Nat) {a : Addr} {o : HO} (e : L[i]? = some (a, o)) : a ≠ p := (F i a o e).1
theorem Fs.keep {p : Addr} {H H' : Hp} {L : List (Addr × HO)} (F : Fs p H L) (k : Keep p H H') : Fs p H' L := fun i a o e => ⟨(F i a o e).1, k _ _ (F i a o e).1 (F i a o e).2⟩
theorem Fs.same {p : Addr} {H H' : Hp} {L : List (Addr × HO)} (F : Fs p H L) (k : Same H H') : Fs p H' L := fun i a o e => ⟨(F i a o e).1, k _ _ (F i a o e).2⟩
theorem Fs.nil {p : Addr} {H : Hp} : Fs p H [] := fun i a o e => by simp at e
theorem Fs.cons {p : Addr} {H : Hp} {L : List (Addr × HO)} {a : Addr} {o : HO} (n : a ≠ p) (h : H a = some o) (F : Fs p H L) : Fs p H ((a, o) :: L) := fun i b u e => by
  cases i with
  | zero =>
    have : (a, o) = (b, u) := by simpa using e
    cases this
    exact ⟨n, h⟩
  | succ i => exact F i b u (by simpa using e)
theorem Fs.app {p : Addr} {H : Hp} : ∀ {L M : List (Addr × HO)}, Fs p H L → Fs p H M → Fs p H (L ++ M)
  | [], _, _, G => G
  | (a, o) :: L, _, F, G => Fs.cons (F.ne 0 rfl) (F.get 0 rfl) (Fs.app (fun i b u e => F (i + 1) b u (by simpa using e)) G)
/-- an object other than q is put in -/
theorem Fs.put {p q : Addr} {H : Hp} {L : List (Addr × HO)} {o : HO} (F : Fs p H L) (n : ∀ (i : Nat) (a : Addr) (u : HO), L[i]? = some (a, u) → a ≠ q) : Fs p (upd H q o) L := fun i a u e => ⟨(F i a u e).1, by rw [upd_ne (n i a u e)]; exact (F i a u e).2⟩
theorem Fs.put_new {p q : Addr} {H H0 : Hp} {L : List (Addr × HO)} {o : HO} (F : Fs p H L) (F0 : Fs p H0 L) (h : H0 q = none) : Fs p (upd H q o) L := F.put fun i a u e z => by
  have := (F0 i a u e).2
  rw [z, h] at this
  cases this
theorem SrcAt.same {H H' : Hp} {p : Addr} {n : Nat} (h : SrcAt H p n) (k : Same H H') : SrcAt H' p n := by
  obtain ⟨g, s, c, e, a⟩ := h
  exact ⟨g, s, c, k _ _ e, a⟩
theorem SrcAt.ne_new {H : Hp} {p q : Addr} {n : Nat} (h : SrcAt H p n) (hq : H q = none) : q ≠ p := fun e => by
  obtain ⟨o, ho⟩ := h.there
  rw [e, ho] at hq
  cases hq
theorem SrcAt.put {H : Hp} {p q : Addr} {n : Nat} {o : HO} (h : SrcAt H p n) (ne : q ≠ p) : SrcAt (L2.upd H q o) p n := by
  obtain ⟨g, s, c, e, a⟩ := h
  exact ⟨g, s, c, by rw [upd_ne ne.symm]; exact e, a⟩
theorem Keep.back {p a : Addr} {H H' : Hp} (k : Keep p H H') (n : a ≠ p) (h : H' a = none) : H a = none := by
  cases e : H a with
  | none => rfl
  | some o => rw [k _ _ n e] at h; cases h
theorem of_none {H : Hp} {x y : Addr} {o : HO} (h1 : H x = none) (h2 : H y = some o) : y ≠ x := fun e => by rw [e, h1] at h2; cases h2
end Sl
/-! ## SlOpInt -/
set_option Elab.async false
set_option linter.all false
set_option maxRecDepth 100000
set_option maxHeartbeats 4000000
namespace Sl
open PySem PySem.Spec PyProof.Rows L2
/-- an operator of an instance of C and an int -/
def rOwnInt (C : Addr) (sp : Sp) : R2 := fun x y H Q => ∃ (a dx : Addr) (fs : List (Str × V)) (i : Int), x = .ref a ∧ H a = some (.ins C dx fs) ∧ y = .int i ∧ sp [.ref a, .int i] H Q (fun _ _ _ => False)
/-- what the class and int say of the operator -/
structure IntOp (K : PySem.W.Frag) (C : Addr) (nm : String) : Prop where
  r : PySem.W.findIn K (.ref C) (dunderR nm) = some none
  i1 : ∃ fo, PySem.W.findIn K (.type "int") (PySem.dunder nm) = some fo
  i2 : ∃ fo, PySem.W.findIn K (.type "int") (dunderR nm) = some fo
  s : PySem.W.subIn K (.type "int") (.ref C) = some false
section
variable {X : Cx} {k : Nat} {C : Addr} {sp : Sp}
theorem op_oeq (h : OwnF X.prog X.w X.K X.mg X.base C k "__eq__" sp) (hr : Room k X.A) : OpR X (compareOp .Eq) (rOwnEq X.K C sp) := by
  obtain ⟨f, fd, ps, hs, hf, F, b⟩ := h.ex
  exact op_ownEq F hs hf b pass0 hr
theorem op_one (h : OwnF X.prog X.w X.K X.mg X.base C k "__eq__" sp) (hne : PySem.W.findIn X.K (.ref C) "__ne__" = some (some (.builtin "object.__ne__"))) (ho : PySem.W.subIn X.K (.ref C) (.type "object") = some true) (hr : Room (k + 1) X.A) : OpR X (compareOp .NotEq) (rOwnNe X.K C sp) := by
  obtain ⟨f, fd, ps, hs, hf, F, b⟩ := h.ex
  exact op_ownNe F hs hf hne ho b pass0 hr
theorem op_obin {op : Operator} (h : OwnF X.prog X.w X.K X.mg X.base C k (PySem.dunder op.info.2) sp) (hc : PySem.W.selfFirst X.K C = true) (hr : Room k X.A) : OpR X (binaryOp op) (rOwnOp C sp) := by
  obtain ⟨f, fd, ps, hs, hf, F, b⟩ := h.ex
  exact op_ownOp F hs hf hc b pass0 hr
theorem op_oint {op : Operator} (h : OwnF X.prog X.w X.K X.mg X.base C k (PySem.dunder op.info.2) sp) (hc : PySem.W.selfFirst X.K C = true) (n : IntOp X.K C op.info.2) (hr : Room k X.A) : OpR X (binaryOp op) (rOwnInt C sp) := by
  obtain ⟨f, fd, ps, hs, hf, F, hb⟩ := h.ex
  intro pins s σ H x y v u Q I rx ry h
  obtain ⟨a, dx, fs, i, rfl, ha, rfl, q⟩ := h
  cases (show v = Value.ref a from rx)
  obtain ⟨t, rfl⟩ := (show ∃ t, u = Value.int i t from ry)
  obtain ⟨mA, J, _⟩ := ins_get I.hok ha
  obtain ⟨od, J, _⟩ := J.look
  obtain ⟨m, hF⟩ := I.fr
  obtain ⟨f1, h1⟩ := n.i1
  obtain ⟨f2, h2⟩ := n.i2
  refine PySem.W.ksp_binT hF I.ok.mod.kin J rfl hc hs hf n.r (.inl rfl) h1 h2 n.s ?_
  refine wpAny_mono (call_at F hr rfl hb pass0 I (x := .ref a) (y := .int i) rfl ⟨t, rfl⟩ q) (fun r s' z => ?_) fun _ _ x => x
  obtain ⟨z, H', I', rz, q'⟩ := z
  have fin : EP X pins σ Q r s' := ⟨z, H', I', rz, q'⟩
  cases z with
  | non => cases (show r = Value.none from rz); exact fin
  | bl c => cases (show r = Value.bool c from rz); exact fin
  | int i => obtain ⟨t, rfl⟩ := (show ∃ t, r = Value.int i t from rz); exact fin
  | str i => obtain ⟨t, rfl⟩ := (show ∃ t, r = Value.str i t from rz); exact fin
  | byt i => obtain ⟨t, rfl⟩ := (show ∃ t, r = Value.bytes i t from rz); exact fin
  | flt i => obtain ⟨t, rfl⟩ := (show ∃ t, r = Value.float i t from rz); exact fin
  | ref i => cases (show r = Value.ref i from rz); exact fin
  | ty i => cases (show r = Value.type i from rz); exact fin
end
end Sl
/-! ## SlProp -/
set_option Elab.async false
set_option linter.all false
set_option maxRecDepth 100000
set_option maxHeartbeats 4000000
/-! a head's Hook as SlHead's, and the getters of properties -/
namespace Sl
open PySem PySem.Spec PyProof.Rows L2 He
def gtr (x m : Str) (K : PySem.W.Frag) : Addr := match PySem.W.recIn K (ma K (ga K x) m) "property" with
  | some (.ref g :: _) => g
  | _ => 0
def propB (x m : Str) (K : PySem.W.Frag) : Bool := eqO (PySem.W.findIn K (.ref (ga K x)) m) (some (some (.ref (ma K (ga K x) m)))) && (eqO (PySem.W.specialIn K (.ref (ma K (ga K x) m)) "__get__") (some (some (.builtin "property.__get__"))) && (decide (PySem.W.takesIn K (.ref (ma K (ga K x) m)) = some true) &&
  (match PySem.W.recIn K (ma K (ga K x) m) "property" with
    | some (.ref _ :: _) => true
    | _ => false)))
theorem propB_ok {x m : Str} {K : PySem.W.Frag} (h : propB x m K = true) : PropOf K (ga K x) m (ma K (ga K x) m) (gtr x m K) := by
  obtain ⟨a1, h⟩ := ba h
  obtain ⟨a2, h⟩ := ba h
  obtain ⟨a3, a4⟩ := ba h
  refine ⟨eqO_ok a1, eqO_ok a2, of_decide_eq_true a3, ?_⟩
  unfold gtr
  cases e : PySem.W.recIn K (ma K (ga K x) m) "property" with
  | none => rw [e] at a4; cases a4
  | some vs =>
    rw [e] at a4
    cases vs with
    | nil => cases a4
    | cons v r =>
      cases v with
      | ref g => exact ⟨r, rfl⟩
      | _ => cases a4
/-- a function at an address -/
def fnAt (K : PySem.W.Frag) (a : Addr) : FnW := match K.lookup a with
  | some ⟨_, _, .func fd, _⟩ => some (fd.name, fd.qualname, fd.params, fd.body, fd.scope, fd.globals, fd.closure, fd.builtins)
  | _ => none
def okAt (K : PySem.W.Frag) (a : Addr) (d : DefD) : Bool := PySem.W.keepIn K (.ref a) && (match K.lookup a with
  | some ⟨_, _, .func fd, _⟩ => PySem.W.codeIn K fd.code d.qual && (dflB K fd.defaults (d.dvs K) && kwdB K fd.kwdefaults (d.kws K))
  | _ => false)
theorem funD_at {K : PySem.W.Frag} {a : Addr} {d : DefD} (e : fnAt K a = d.val) (c : okAt K a d = true) : ∃ fd, FunD K d.name d.qual d.params d.body d.scope (d.dvs K) (d.kws K) a fd := by
  obtain ⟨kp, c2⟩ := ba c
  unfold fnAt at e
  cases q : K.lookup a with
  | none => rw [q] at c2; cases c2
  | some o =>
    obtain ⟨oc, od, dt, osl⟩ := o
    rw [q] at c2 e
    cases dt with
    | func fd =>
      obtain ⟨m1, m2, m3, m4, m5, m6, m7, m8, m9, m10, m11, m12, m13, m14, m15⟩ := fd
      have e2 : (some (m1, m2, m3, m4, m5, m6, m7, m15) : FnW) = some (d.name, d.qual, d.params, .stmts d.body, d.scope, mainGlobals, [], builtinsNs) := e
      simp only [Option.some.injEq, Prod.mk.injEq] at e2
      obtain ⟨h1, h2, h3, h4, h5, h6, h7, h8⟩ := e2
      subst h1 h2 h3 h4 h5 h6 h7 h8
      obtain ⟨k1, k2⟩ := ba (show (PySem.W.codeIn K m13 d.qual && (dflB K m8 (d.dvs K) && kwdB K m9 (d.kws K))) = true from c2)
      obtain ⟨k3, k4⟩ := ba k2
      exact ⟨_, ⟨oc, od, m8, m9, m10, m11, m12, m13, m14, osl, rfl, q, k1, dflB_ok k3, kwdB_ok k4⟩, kp⟩
    | _ => cases c2
abbrev PrD : Type := (PySem.W.Frag → Addr) × DefD
abbrev AlT : Type := AlS × Bool × List FnW
def obsT (fa : List Fa) (fn : List DefD) (pr : List PrD) (ex : List (PySem.W.Frag → Bool)) (K : PySem.W.Frag) : AlT := (obsS fa fn ex K, pr.all fun q => okAt K (q.1 K) q.2, pr.map fun q => fnAt K (q.1 K))
def obsTG (n : Nat) (fa : List Fa) (fn : List DefD) (pr : List PrD) (ex : List (PySem.W.Frag → Bool)) (g : Addr → Option Obj) : AlT := obsT fa fn pr ex (frG g (asS g n))
def valT (fn : List DefD) (pr : List PrD) : AlT := (valS fn, true, pr.map fun q => q.2.val)
def SaysT (fa : List Fa) (fn : List DefD) (pr : List PrD) (ex : List (PySem.W.Frag → Bool)) (K : PySem.W.Frag) : Prop := obsT fa fn pr ex K = valT fn pr
def hookT (n : Nat) (fa : List Fa) (fn : List DefD) (pr : List PrD) (ex : List (PySem.W.Frag → Bool)) : PySem.W.Hook where
  α := AlT
  obs := fun s => obsTG n fa fn pr ex s.heap.get?
  val := fun _ => valT fn pr
  says := fun _ h => ∃ K : PySem.W.Frag, K.In h ∧ SaysT fa fn pr ex K
  of := fun _ _ e => ⟨_, frG_in, e⟩
  keeps := fun _ _ _ ⟨K, hK, c⟩ k => ⟨K, PySem.W.Frag.In.keeps hK k, c⟩
theorem obsTG_eq {n : Nat} {fa : List Fa} {fn : List DefD} {pr : List PrD} {ex : List (PySem.W.Frag → Bool)} {g : Addr → Option Obj} {s : Shared} (h : ∀ a, g a = s.heap.get? a) : obsTG n fa fn pr ex g = (hookT n fa fn pr ex).obs s := by
  have e : g = s.heap.get? := funext h
  rw [e] <;> rfl
theorem SaysT.s {fa : List Fa} {fn : List DefD} {pr : List PrD} {ex : List (PySem.W.Frag → Bool)} {K : PySem.W.Frag} (c : SaysT fa fn pr ex K) : SaysS fa fn ex K := congrArg (fun z : AlT => z.1) c
theorem SaysT.p {fa : List Fa} {fn : List DefD} {pr : List PrD} {ex : List (PySem.W.Frag → Bool)} {K : PySem.W.Frag} (c : SaysT fa fn pr ex K) (i : Nat) {q : PrD} (h : pr[i]? = some q := by rfl) : ∃ fd, FunD K q.2.name q.2.qual q.2.params q.2.body q.2.scope (q.2.dvs K) (q.2.kws K) (q.1 K) fd := by
  have c1 : (pr.all fun q => okAt K (q.1 K) q.2) = true := congrArg (fun z : AlT => z.2.1) c
  have e : (pr.map fun q => fnAt K (q.1 K)) = pr.map fun q => q.2.val := congrArg (fun z : AlT => z.2.2) c
  have e2 : (pr.map fun q => fnAt K (q.1 K))[i]? = (pr.map fun q => q.2.val)[i]? := by rw [e]
  rw [List.getElem?_map, List.getElem?_map, h] at e2
  exact funD_at (Option.some.inj e2) (List.all_eq_true.mp c1 q (List.mem_of_getElem? h))
end Sl
/-! ## SlGen -/
set_option Elab.async false
set_option linter.all false
set_option maxRecDepth 100000
set_option maxHeartbeats 4000000
/-! lists of names and things: what a name has, equality by names -/
namespace Sl
open PySem PySem.Spec PyProof.Rows L2
section
variable {α : Type}
abbrev NG (α : Type) : Type := List (Str × α)
def kg (A : NG α) : List Str := A.map (·.1)
def gl (A : NG α) (x : Str) : Option α := (A.find? fun p => decide (p.1 = x)).map (·.2)
theorem kg_len (A : NG α) : (kg A).length = A.length := List.length_map _
theorem gl_mem {A : NG α} {x : Str} {i : α} (h : gl A x = some i) : (x, i) ∈ A := by
  unfold gl at h
  cases e : A.find? fun p => decide (p.1 = x) with
  | none => rw [e] at h; cases h
  | some p =>
    rw [e] at h
    have h1 := List.mem_of_find?_eq_some e
    have h2 : p.1 = x := by simpa using List.find?_some e
    have h3 : p.2 = i := Option.some.inj h
    rw [← h2, ← h3]
    exact h1
theorem gl_none {A : NG α} {x : Str} : gl A x = none ↔ x ∉ kg A := by
  unfold gl kg
  rw [Option.map_eq_none_iff, List.find?_eq_none]
  constructor
  · intro h hm
    obtain ⟨p, hp, e⟩ := List.mem_map.mp hm
    exact h p hp (by simpa using e)
  · intro h p hp e
    exact h (List.mem_map.mpr ⟨p, hp, by simpa using e⟩)
theorem gl_of {A : NG α} {x : Str} {i : α} (h : (kg A).Nodup) (hm : (x, i) ∈ A) : gl A x = some i := by
  induction A with
  | nil => cases hm
  | cons p r ih =>
    have h' : p.1 ∉ kg r ∧ (kg r).Nodup := List.nodup_cons.mp h
    rcases List.mem_cons.mp hm with e | hr
    · subst e
      show ((((x, i) : Str × α) :: r).find? fun p => decide (p.1 = x)).map (·.2) = some i
      rw [List.find?_cons_of_pos (by simp)]
      rfl
    · have ne : p.1 ≠ x := fun e => h'.1 (List.mem_map.mpr ⟨(x, i), hr, e.symm⟩)
      have := ih h'.2 hr
      unfold gl at this ⊢
      rw [List.find?_cons_of_neg (by simpa using ne)]
      exact this
theorem kg_perm {A B : NG α} (h : A.Perm B) : (kg A).Perm (kg B) := h.map _
theorem gl_perm {A B : NG α} (h : A.Perm B) (ha : (kg A).Nodup) (x : Str) : gl A x = gl B x := by
  have hb : (kg B).Nodup := (kg_perm h).nodup_iff.mp ha
  cases e : gl A x with
  | none => exact (gl_none.mpr fun hm => (gl_none.mp e) ((kg_perm h).mem_iff.mpr hm)).symm
  | some i => exact (gl_of hb (h.mem_iff.mp (gl_mem e))).symm
theorem eq_map_gl {A B : NG α} (ha : (kg A).Nodup) (hb : (kg B).Nodup) (hk : kg A = kg B) (h : ∀ x, gl A x = gl B x) : A = B := by
  refine List.ext_getElem? fun i => ?_
  have hl : A.length = B.length := by rw [← kg_len, hk, kg_len]
  by_cases hi : i < A.length
  · have hj : i < B.length := by omega
    rw [List.getElem?_eq_getElem hi, List.getElem?_eq_getElem hj]
    have k1 : (kg A)[i]? = some A[i].1 := by unfold kg; rw [List.getElem?_map, List.getElem?_eq_getElem hi]; rfl
    have k2 : (kg B)[i]? = some B[i].1 := by unfold kg; rw [List.getElem?_map, List.getElem?_eq_getElem hj]; rfl
    rw [hk, k2] at k1
    have e1 : B[i].1 = A[i].1 := Option.some.inj k1
    have g1 := gl_of ha (show (A[i].1, A[i].2) ∈ A from List.getElem_mem hi)
    have g2 := gl_of hb (show (B[i].1, B[i].2) ∈ B from List.getElem_mem hj)
    rw [h, ← e1, g2] at g1
    have e2 : B[i].2 = A[i].2 := Option.some.inj g1
    exact congrArg some (Prod.ext e1.symm e2.symm)
  · rw [List.getElem?_eq_none (by omega), List.getElem?_eq_none (by omega)]
/-- in the order of the names -/
structure Cg (A : NG α) : Prop where
  so : (kg A).Pairwise leS
  nd : (kg A).Nodup
theorem cg_eq {A B : NG α} (ha : Cg A) (hb : Cg B) (h : ∀ x, gl A x = gl B x) : A = B := by
  have hk : kg A = kg B := perm_unique leS_anti (nodup_perm ha.nd hb.nd fun x => by
    have e := h x
    constructor
    · intro hx
      exact Classical.byContradiction fun n => (gl_none.mp (by rw [e]; exact gl_none.mpr n)) hx
    · intro hx
      exact Classical.byContradiction fun n => (gl_none.mp (by rw [← e]; exact gl_none.mpr n)) hx) ha.so hb.so
  exact eq_map_gl ha.nd hb.nd hk h
theorem cg_perm {A B : NG α} (ha : Cg A) (hb : Cg B) (h : A.Perm B) : A = B := cg_eq ha hb (gl_perm h ha.nd)
variable [DecidableEq α]
def okG (B : NG α) (p : Str × α) : Bool := match gl B p.1 with
  | some y => decide (p.2 = y)
  | none => false
def allG (A B : NG α) : Bool := A.all (okG B)
def eqG (A B : NG α) : Bool := (A.length == B.length) && allG A B
theorem eqG_iff {A B : NG α} (ha : (kg A).Nodup) (hb : (kg B).Nodup) : eqG A B = true ↔ ∀ x, gl A x = gl B x := by
  have hall : allG A B = true ↔ ∀ p ∈ A, gl B p.1 = some p.2 := by
    unfold allG
    rw [List.all_eq_true]
    constructor
    · intro h p hp
      have e := h p hp
      unfold okG at e
      cases g : gl B p.1 with
      | none => rw [g] at e; cases e
      | some i =>
        rw [g] at e
        rw [show p.2 = i by simpa using e]
    · intro h p hp
      unfold okG
      rw [h p hp]
      simp
  unfold eqG
  rw [Bool.and_eq_true, hall, beq_iff_eq]
  constructor
  · rintro ⟨hl, h⟩ x
    have sub : ∀ y ∈ kg A, y ∈ kg B := fun y hy => by
      obtain ⟨p, hp, e⟩ := List.mem_map.mp hy
      exact List.mem_map.mpr ⟨(p.1, p.2), gl_mem (h p hp), e⟩
    cases e : gl A x with
    | some i => rw [h (x, i) (gl_mem e)]
    | none =>
      have hx := gl_none.mp e
      cases e2 : gl B x with
      | none => rfl
      | some j =>
        exfalso
        have hxb : x ∈ kg B := List.mem_map.mpr ⟨(x, j), gl_mem e2, rfl⟩
        obtain ⟨y, hy, hny⟩ := one_not_in (x :: kg A) (kg B) (List.nodup_cons.mpr ⟨hx, ha⟩) (by rw [List.length_cons, kg_len, kg_len]; omega)
        rcases List.mem_cons.mp hy with e3 | e3
        · exact hny (e3 ▸ hxb)
        · exact hny (sub y e3)
  · intro h
    have hk : ∀ {A B : NG α}, (kg A).Nodup → (∀ x, gl A x = gl B x) → A.length ≤ B.length := by
      intro A B ha h
      rcases Nat.lt_or_ge B.length A.length with hlt | hge
      · exfalso
        obtain ⟨y, hy, hny⟩ := one_not_in (kg A) (kg B) ha (by rw [kg_len, kg_len]; exact hlt)
        obtain ⟨p, hp, e⟩ := List.mem_map.mp hy
        have e1 := gl_of ha (show (p.1, p.2) ∈ A from hp)
        rw [h p.1] at e1
        exact hny (List.mem_map.mpr ⟨(p.1, p.2), gl_mem e1, e⟩)
      · exact hge
    refine ⟨Nat.le_antisymm (hk ha h) (hk hb fun x => (h x).symm), fun p hp => ?_⟩
    rw [← h p.1]
    exact gl_of ha hp
theorem eqG_refl {A : NG α} (h : (kg A).Nodup) : eqG A A = true := (eqG_iff h h).mpr fun _ => rfl
theorem eqG_perm {A B A' B' : NG α} (hA : A.Perm A') (hB : B.Perm B') (a : (kg A).Nodup) (b : (kg B).Nodup) : eqG A B = eqG A' B' := by
  rw [Bool.eq_iff_iff, eqG_iff a b, eqG_iff ((kg_perm hA).nodup_iff.mp a) ((kg_perm hB).nodup_iff.mp b)]
  have e1 := gl_perm hA a
  have e2 := gl_perm hB b
  exact ⟨fun h x => by rw [← e1, ← e2, h], fun h x => by rw [e1, e2, h]⟩
end
/-! ### the keys of two dicts together -/
open Classical in
theorem putK_keys (A : List (Key × V)) (k : Key) (v : V) : ((putK A k v).map (·.1)) = if k ∈ A.map (·.1) then A.map (·.1) else A.map (·.1) ++ [k] := by
  unfold putK
  by_cases h : k ∈ A.map (·.1)
  · have hn : (A.any fun kv => decide (kv.1 = k)) = true := by
      obtain ⟨p, hp, e⟩ := List.mem_map.mp h
      exact List.any_eq_true.mpr ⟨p, hp, decide_eq_true e⟩
    rw [if_pos h, if_pos hn, List.map_map]
    refine List.map_congr_left fun p _ => ?_
    show (if p.1 = k then (p.1, v) else p).1 = p.1
    split <;> rfl
  · have hn : (A.any fun kv => decide (kv.1 = k)) = false := by
      rw [List.any_eq_false]
      intro kv hk e
      exact h (List.mem_map.mpr ⟨kv, hk, of_decide_eq_true e⟩)
    rw [if_neg h, hn, if_neg Bool.false_ne_true, List.map_append]
    rfl
theorem mergeK_keys : ∀ (B A : List (Key × V)), (A.map (·.1)).Nodup → ((mergeK A B).map (·.1)).Nodup ∧ (∀ y, y ∈ (mergeK A B).map (·.1) ↔ y ∈ A.map (·.1) ∨ y ∈ B.map (·.1)) ∧ (mergeK A B).length ≤ A.length + B.length
  | [], A, h => ⟨h, fun y => ⟨.inl, fun q => q.elim id fun q => absurd q List.not_mem_nil⟩, Nat.le_refl _⟩
  | p :: r, A, h => by
    have e := putK_keys A p.1 p.2
    have h1 : ((putK A p.1 p.2).map (·.1)).Nodup ∧ (∀ y, y ∈ (putK A p.1 p.2).map (·.1) ↔ y ∈ A.map (·.1) ∨ y = p.1) ∧ (putK A p.1 p.2).length ≤ A.length + 1 := by
      have hl : ((putK A p.1 p.2).map (·.1)).length = (putK A p.1 p.2).length := List.length_map _
      rw [e] at hl ⊢
      by_cases hm : p.1 ∈ A.map (·.1)
      · rw [if_pos hm] at hl ⊢
        rw [List.length_map] at hl
        refine ⟨h, fun y => ⟨.inl, fun q => q.elim id fun q => q ▸ hm⟩, by omega⟩
      · rw [if_neg hm] at hl ⊢
        rw [List.length_append, List.length_map] at hl
        refine ⟨List.nodup_append.mpr ⟨h, by simp, fun a ha b hb e => hm ?_⟩, fun y => by simp, ?_⟩
        · rw [← List.mem_singleton.mp hb, ← e]
          exact ha
        · simp only [List.length_cons, List.length_nil] at hl
          omega
    obtain ⟨a1, a2, a3⟩ := h1
    obtain ⟨b1, b2, b3⟩ := mergeK_keys r (putK A p.1 p.2) a1
    refine ⟨b1, fun y => ?_, ?_⟩
    · show y ∈ (mergeK (putK A p.1 p.2) r).map (·.1) ↔ _
      rw [b2, a2, List.map_cons, List.mem_cons, or_assoc]
    · show (mergeK (putK A p.1 p.2) r).length ≤ A.length + (r.length + 1)
      omega
theorem mergeK_apart : ∀ (B A : List (Key × V)), (∀ k ∈ B.map (·.1), k ∉ A.map (·.1)) → (B.map (·.1)).Nodup → mergeK A B = A ++ B
  | [], A, _, _ => (List.append_nil A).symm
  | p :: r, A, h, hn => by
    obtain ⟨n1, n2⟩ := List.nodup_cons.mp (show (p.1 :: r.map (·.1)).Nodup from hn)
    have hp := h p.1 List.mem_cons_self
    have e : putK A p.1 p.2 = A ++ [p] := by
      unfold putK
      have hn : (A.any fun kv => decide (kv.1 = p.1)) = false := by
        rw [List.any_eq_false]
        intro kv hk e
        exact hp (List.mem_map.mpr ⟨kv, hk, of_decide_eq_true e⟩)
      rw [hn, if_neg Bool.false_ne_true]
    show mergeK (putK A p.1 p.2) r = _
    rw [e, mergeK_apart r (A ++ [p]) (fun k hk hm => ?_) n2, List.append_assoc]
    · rfl
    · rw [List.map_append] at hm
      rcases List.mem_append.mp hm with q | q
      · exact h k (List.mem_cons_of_mem _ hk) q
      · have : k = p.1 := by simpa using q
        exact n1 (this ▸ hk)
end Sl
/-! ## SlTur -/
set_option Elab.async false
set_option linter.all false
set_option maxRecDepth 100000
set_option maxHeartbeats 4000000
set_option pp.deepTerms false
set_option pp.maxSteps 400
namespace Sl
open PySem PySem.Spec PyProof.Rows L2 Lw
/-- the content of turns -/
abbrev CT : Type := NG (List Str)
def ct (T : TT') : CT := T.map fun t => (t.1, t.2.2)
theorem kg_ct (T : TT') : kg (ct T) = T.map (·.1) := by
  unfold kg ct
  rw [List.map_map]
  rfl
theorem keys_tkv (T : TT') : (T.map tkv).map (·.1) = (kg (ct T)).map Sum.inr := by
  rw [kg_ct, List.map_map, List.map_map]
  rfl
/-- turns told by tuples -/
theorem strs_inj : ∀ {xs ys : List Str}, xs.map V.str = ys.map V.str → xs = ys
  | [], [], _ => rfl
  | [], _ :: _, h => by cases h
  | _ :: _, [], h => by cases h
  | x :: xs, y :: ys, h => by
    injection h with h1 h2
    rw [V.str.inj h1, strs_inj h2]
theorem eqvAll_strs : ∀ xs ys : List Str, PyData.eqvAll (xs.map PyData.str) (ys.map PyData.str) = decide (xs = ys)
  | [], [] => by simp [PyData.eqvAll]
  | [], _ :: _ => by simp [PyData.eqvAll]
  | _ :: _, [] => by simp [PyData.eqvAll]
  | a :: r, b :: t => by
    have ih := eqvAll_strs r t
    rw [List.map_cons, List.map_cons, PyData.eqvAll, ih]
    by_cases h : a = b <;> by_cases h' : r = t <;> simp [PyData.eqv, h, h']
theorem eqv_strs (xs ys : List Str) : PyData.eqv (.tuple (xs.map PyData.str)) (.tuple (ys.map PyData.str)) = decide (xs = ys) := by
  rw [PyData.eqv]
  exact eqvAll_strs xs ys
theorem dpAll_strs {K : PySem.W.Frag} {H : Hp} : ∀ xs : List Str, DpAll K H (xs.map V.str) (xs.map PyData.str)
  | [] => .nil
  | x :: r => .cons (.str x) (dpAll_strs r)
def okStr (x : Str) : Prop := PyData.strOk x = true
theorem lay_strs : ∀ xs : List Str, (∀ x ∈ xs, okStr x) → PyData.canLayAll0 (xs.map PyData.str) = true
  | [], _ => by simp [PyData.canLayAll0]
  | x :: r, h => by
    rw [List.map_cons, PyData.canLayAll0, lay_strs r fun y hy => h y (List.mem_cons_of_mem _ hy)]
    have := h x List.mem_cons_self
    unfold okStr at this
    simp [PyData.canLay0, this]
theorem deep_strs : ∀ xs : List Str, PyData.depthAll (xs.map PyData.str) ≤ 1
  | [] => by simp [PyData.depthAll]
  | x :: r => by
    have ih := deep_strs r
    rw [List.map_cons, PyData.depthAll]
    simp only [PyData.depth]
    omega
theorem okStr_name {z : Str} (h : nameB z = true) : okStr z := by
  unfold okStr PyData.strOk
  rw [Array.all_eq_true']
  intro c hc
  have h1 := nameB_all h c (by simpa using hc)
  unfold letB at h1
  have h2 : (alpha.cps.toList.all fun c => decide (c < 0x110000)) = true := by decide +kernel
  exact List.all_eq_true.mp h2 c (of_decide_eq_true h1)
def TupsAt (H : Hp) (d : Addr) (T : TT') : Prop := H d = some (.dK (T.map tkv)) ∧ ∀ t ∈ T, H t.2.1 = some (.tup (t.2.2.map V.str)) ∧ ∀ z ∈ t.2.2, nameB z = true
theorem TupsAt.same {H H' : Hp} {d : Addr} {T : TT'} (h : TupsAt H d T) (k : Same H H') : TupsAt H' d T := ⟨k _ _ h.1, fun t ht => ⟨k _ _ (h.2 t ht).1, (h.2 t ht).2⟩⟩
theorem shaped_strs (xs : List Str) (h : ∀ x ∈ xs, okStr x) : SeqAt.shaped (.tuple (xs.map PyData.str)) = true := by
  unfold SeqAt.shaped
  rw [PyData.canLay0, lay_strs xs h, Bool.true_and, PyData.depth]
  have := deep_strs xs
  exact decide_eq_true (by omega)
section
variable {X : Cx} {pins : List (Addr × Obj)} {σ : L2.St} {H : Hp} {s : Shared}
theorem tup_eqAt (I : Inv X pins σ H s) {A : Around} (hu : A.units + 64 < cLine) {a b : Addr} {xs ys : List Str} (ha : H a = some (.tup (xs.map V.str))) (hb : H b = some (.tup (ys.map V.str))) (nx : ∀ z ∈ xs, nameB z = true) (ny : ∀ z ∈ ys, nameB z = true) : SeqAt.EqAt A s (.ref a) (.ref b) (decide (xs = ys)) := by
  by_cases e : a = b
  · subst e
    rw [ha] at hb
    have e2 : xs = ys := strs_inj (HO.tup.inj (Option.some.inj hb))
    rw [decide_eq_true e2]
    exact SeqAt.EqAt.same _
  · refine SeqAt.EqAt.of_refs e fun prog w E Q hq => ?_
    obtain ⟨as, r1⟩ := Dp.reads I (.tuple (xs.map PyData.str)) (.ref a) (.ref a) (.tup (SqT.of ha) (dpAll_strs xs)) rfl
    obtain ⟨bs, r2⟩ := Dp.reads I (.tuple (ys.map PyData.str)) (.ref b) (.ref b) (.tup (SqT.of hb) (dpAll_strs ys)) rfl
    exact SeqAt.compareEq_shaped r1 r2 (shaped_strs _ fun z hz => okStr_name (nx z hz)) (shaped_strs _ fun z hz => okStr_name (ny z hz)) hu (by rw [eqv_strs]; exact hq)
theorem valV_tkv (T : TT') (x : Str) : valV (T.map tkv) (.inr x) = ((T.find? fun t => decide (t.1 = x)).map fun t => V.ref t.2.1) := by
  unfold valV
  induction T with
  | nil => rfl
  | cons p r ih =>
    by_cases h : p.1 = x
    · have h1 : (fun kv : Key × V => decide (kv.1 = Sum.inr x)) (tkv p) = true := decide_eq_true (congrArg Sum.inr h)
      rw [List.map_cons, List.find?_cons_of_pos (p := fun kv : Key × V => decide (kv.1 = Sum.inr x)) h1, List.find?_cons_of_pos (by simpa using h)]
      rfl
    · have h1 : ¬ (fun kv : Key × V => decide (kv.1 = Sum.inr x)) (tkv p) = true := by
        intro e
        exact h (Sum.inr.inj (of_decide_eq_true e))
      rw [List.map_cons, List.find?_cons_of_neg (p := fun kv : Key × V => decide (kv.1 = Sum.inr x)) h1, List.find?_cons_of_neg (by simpa using h)]
      exact ih
theorem gl_ct (T : TT') (x : Str) : gl (ct T) x = (T.find? fun t => decide (t.1 = x)).map fun t => t.2.2 := by
  unfold gl ct
  induction T with
  | nil => rfl
  | cons p r ih =>
    by_cases h : p.1 = x
    · rw [List.map_cons, List.find?_cons_of_pos (by simpa using h), List.find?_cons_of_pos (by simpa using h)]
      rfl
    · rw [List.map_cons, List.find?_cons_of_neg (by simpa using h), List.find?_cons_of_neg (by simpa using h)]
      exact ih
theorem hits_tur (I : Inv X pins σ H s) {A : Around} (hu : A.units + 64 < cLine) {S : TT'} {vb : List (Key × Value)} (rb : KV (S.map tkv) vb) (hS : ∀ t ∈ S, H t.2.1 = some (.tup (t.2.2.map V.str)) ∧ ∀ z ∈ t.2.2, nameB z = true) :
    ∀ {T : TT'} {va : List (Key × Value)}, KV (T.map tkv) va → (∀ t ∈ T, H t.2.1 = some (.tup (t.2.2.map V.str)) ∧ ∀ z ∈ t.2.2, nameB z = true) → PySem.W.KeqHits A s vb va (allG (ct T) (ct S))
  | [], [], .nil, _ => .nil
  | t :: T, q :: va, .cons h hr, hT => by
    have ih := hits_tur I hu rb hS (T := T) hr fun u hu' => hT u (List.mem_cons_of_mem _ hu')
    obtain ⟨k, v⟩ := q
    obtain ⟨h1, h2⟩ := h
    have ek : Sum.inr t.1 = k := h1
    subst ek
    have rv := KV.val rb (Sum.inr t.1)
    rw [valV_tkv] at rv
    show PySem.W.KeqHits A s vb ((Sum.inr t.1, v) :: va) (okG (ct S) (t.1, t.2.2) && allG (ct T) (ct S))
    unfold okG
    dsimp only
    rw [gl_ct]
    cases e : S.find? fun u => decide (u.1 = t.1) with
    | none =>
      rw [e] at rv
      have : valueAt vb (Sum.inr t.1) = none := by
        cases e2 : valueAt vb (Sum.inr t.1) with
        | none => rfl
        | some u => rw [e2] at rv; exact rv.elim
      exact .miss this
    | some u =>
      rw [e] at rv
      obtain ⟨y, e2, ru⟩ := RelO.some_of rv
      have hu1 := hS u (List.mem_of_find?_eq_some e)
      have ht1 := hT t List.mem_cons_self
      cases (show y = Value.ref u.2.1 from ru)
      cases (show v = Value.ref t.2.1 from h2)
      exact .hit e2 (tup_eqAt I hu ht1.1 hu1.1 ht1.2 hu1.2) ih
end
theorem hitsP_of {P : Program} {w : World} {A : Around} {s : Shared} {vb : List (Key × Value)} : ∀ {va : List (Key × Value)} {r : Bool}, PySem.W.KeqHits A s vb va r → PySem.W.KeqHitsP P w A s vb va r
  | _, _, .nil => .nil
  | _, _, .miss h => .miss h
  | _, _, .hit h e t => .hit h e.eqP (hitsP_of t)
def rEqTur : R2 := fun x y H Q => ∃ (a b : Addr) (S T : TT'), x = .ref a ∧ y = .ref b ∧ TupsAt H a S ∧ TupsAt H b T ∧ Q (.bl (eqG (ct S) (ct T))) H
def rNeTur : R2 := fun x y H Q => ∃ (a b : Addr) (S T : TT'), x = .ref a ∧ y = .ref b ∧ TupsAt H a S ∧ TupsAt H b T ∧ Q (.bl (!eqG (ct S) (ct T))) H
theorem len_tkv {S T : TT'} {va vb : List (Key × Value)} (ra : KV (S.map tkv) va) (rb : KV (T.map tkv) vb) : (va.length == vb.length) = ((ct S).length == (ct T).length) := by
  have h1 := KV.length ra
  have h2 := KV.length rb
  rw [List.length_map] at h1 h2
  unfold ct
  rw [List.length_map, List.length_map, h1, h2]
section
variable {X : Cx}
theorem op_eqTur (hu : X.A.units + 128 < cLine) : OpR X (compareOp .Eq) rEqTur := by
  intro pins s σ H x y v u Q I rx ry h
  obtain ⟨a, b, S, T, rfl, rfl, ⟨ea, hS⟩, ⟨eb, hT⟩, q⟩ := h
  obtain rfl : v = Value.ref a := rx
  obtain rfl : u = Value.ref b := ry
  obtain ⟨_, ya, va, ra, da⟩ := dk_of I.hok ea
  obtain ⟨_, yb, vb, rb, db⟩ := dk_of I.hok eb
  refine PySem.W.keq_eq (knd := mixKind X.prog X.w) (r := allG (ct S) (ct T)) ya yb da db (by omega) (fun _ => hits_tur I (by show X.A.units + 1 + 64 < cLine; omega) rb hT ra hS) (fin_bl I q ?_)
  rw [len_tkv ra rb]
  rfl
theorem op_neTur (hu : X.A.units + 128 < cLine) : OpR X (compareOp .NotEq) rNeTur := by
  intro pins s σ H x y v u Q I rx ry h
  obtain ⟨a, b, S, T, rfl, rfl, ⟨ea, hS⟩, ⟨eb, hT⟩, q⟩ := h
  obtain rfl : v = Value.ref a := rx
  obtain rfl : u = Value.ref b := ry
  obtain ⟨_, ya, va, ra, da⟩ := dk_of I.hok ea
  obtain ⟨_, yb, vb, rb, db⟩ := dk_of I.hok eb
  refine PySem.W.keq_ne (knd := mixKind X.prog X.w) (r := allG (ct S) (ct T)) ya yb da db (by omega) (fun _ => hits_tur I (by show X.A.units + 1 + 64 < cLine; omega) rb hT ra hS) (fin_bl I q ?_)
  rw [len_tkv ra rb]
  rfl
/-- [turns, brings] == [turns, brings] -/
def rEqDue (K : PySem.W.Frag) : R2 := fun x y H Q => ∃ (l m a b c d : Addr) (S T : TT') (A B : NI), x = .ref l ∧ y = .ref m ∧ l ≠ m ∧ a ≠ b ∧ c ≠ d ∧ H l = some (.lst [.ref a, .ref c]) ∧ H m = some (.lst [.ref b, .ref d]) ∧ TupsAt H a S ∧ TupsAt H b T ∧ H c = some (dI A) ∧ H d = some (dI B) ∧ Q (.bl (eqG (ct S) (ct T) && eqI A B)) H
theorem op_eqDue (hu : X.A.units + 256 < cLine) : OpR X (compareOp .Eq) (rEqDue X.K) := by
  intro pins s σ H x y v u Q I rx ry h
  obtain ⟨l, m, a, b, c, d, S, T, A, B, rfl, rfl, nlm, nab, ncd, el, em, ⟨ea, hS⟩, ⟨eb, hT⟩, ec, ed, q⟩ := h
  obtain rfl : v = Value.ref l := rx
  obtain rfl : u = Value.ref m := ry
  obtain ⟨_, ya, va, ra, da⟩ := dk_of I.hok ea
  obtain ⟨_, yb, vb, rb, db⟩ := dk_of I.hok eb
  obtain ⟨_, yc, vc, rc, dc⟩ := dk_of I.hok ec
  obtain ⟨_, yd, vd, rd, dd⟩ := dk_of I.hok ed
  have pa : SeqAt.EqP X.prog X.w X.A.in1 s (.ref a) (.ref b) (eqG (ct S) (ct T)) := SeqAt.eqP_refs nab fun E Q hq => PySem.W.rcP_dicts (knd := mixKind X.prog X.w) (r := allG (ct S) (ct T)) ya yb da db (by show X.A.units + 1 < cLine; omega)
    (fun _ => hitsP_of (hits_tur I (by show X.A.units + 1 + 1 + 64 < cLine; omega) rb hT ra hS)) E Q (by rw [len_tkv ra rb]; exact hq)
  have pc : SeqAt.EqP X.prog X.w X.A.in1 s (.ref c) (.ref d) (eqI A B) := SeqAt.eqP_refs ncd fun E Q hq => PySem.W.rcP_dicts (knd := mixKind X.prog X.w) (r := dicAll (A.map kvi) (B.map kvi)) yc yd dc dd (by show X.A.units + 1 < cLine; omega)
    (fun _ => hitsP_of (hits_of rd (flat_dI B) rc (flat_dI A))) E Q (by rw [← KV.length rc, ← KV.length rd]; exact hq)
  obtain ⟨us, r1, p1, _⟩ := I.list (SqL.of el)
  obtain ⟨ws, r2, p2, _⟩ := I.list (SqL.of em)
  obtain ⟨u1, u2, rfl, ru1, ru2⟩ := vals2 r1
  obtain ⟨w1, w2, rfl, rw1, rw2⟩ := vals2 r2
  cases (show u1 = Value.ref a from ru1)
  cases (show u2 = Value.ref c from ru2)
  cases (show w1 = Value.ref b from rw1)
  cases (show w2 = Value.ref d from rw2)
  refine SeqAt.rcP_lists (e := fun j => if j = 0 then eqG (ct S) (ct T) else eqI A B) p1.isList p2.isList rfl (by omega) (fun j h1 h2 => ?_) _ _ ?_
  · match j, h1 with
    | 0, _ => exact pa
    | 1, _ => exact pc
  · refine ⟨.bl _, H, I, ?_, q⟩
    show Value.bool _ = Value.bool _
    rw [show ((List.range ([Value.ref a, Value.ref c].toArray).size).all fun j => if j = 0 then eqG (ct S) (ct T) else eqI A B) = (eqG (ct S) (ct T) && eqI A B) from by
      show ((eqG (ct S) (ct T)) && ((eqI A B) && true)) = _
      rw [Bool.and_true]]
end
end Sl
/-! ## StA -/
set_option Elab.async false
set_option linter.all false
set_option maxRecDepth 100000
set_option maxHeartbeats 8000000
set_option pp.deepTerms false
set_option pp.deepTerms.threshold 3
set_option pp.maxSteps 500
namespace Sl
open PySem PySem.Spec PyProof.Rows L2
/-! a walk over a list or a tuple -/
def iLT (K : PySem.W.Frag) (tl : TE) : TI := fun σ H R => tl σ H fun x H1 => ∃ a, x = .ref a ∧ (((∃ xs, SqL K H1 a xs) ∧ R (Itl K a) H1) ∨ ((∃ xs, SqT K H1 a xs) ∧ R (Itt K a) H1))
section
variable {X : Cx} {tg e : Expr} {te : TE}
theorem pi_lt (he : PE X e te) : PI X tg e (iLT X.K te) := by
  refine ⟨fun pp st σ G R J h => ?_⟩
  refine thn (he.run pp st σ G _ J h) fun u s9 ⟨x, G1, J1, r1, a, ex, q⟩ => ?_
  subst ex
  cases r1
  have nw := s9.heap.objs.size
  rcases q with ⟨⟨xs, hq⟩, q⟩ | ⟨⟨xs, hq⟩, q⟩
  · obtain ⟨its, rv, il, hz⟩ := J1.list hq
    refine wpAny_pyIter_list il.isList ?_
    refine ⟨s9.heap.objs.size, [s9.heap.objs.size], _, _, G1, rfl, J1.kept (t' := s9.toks) fun b o z => Heap.get?_push_of_some _ z, turn_list a _,
      ⟨_, Heap.get?_push_size _ rfl, rfl, rfl⟩, fun b hb => ?_, q⟩
    obtain rfl : b = s9.heap.objs.size := by simpa using hb
    exact J1.fpOk (Nat.le_refl _) (J1.hok.fresh (Nat.le_refl _))
  · obtain ⟨its, rv, il, hz⟩ := J1.tuple hq
    refine wpAny_pyIter_tuple (show s9.heap.IsTuple a its.toArray from il) ?_
    refine ⟨s9.heap.objs.size, [s9.heap.objs.size], _, _, G1, rfl, J1.kept (t' := s9.toks) fun b o z => Heap.get?_push_of_some _ z, turn_tuple a _,
      ⟨_, Heap.get?_push_size _ rfl, rfl, rfl⟩, fun b hb => ?_, q⟩
    obtain rfl : b = s9.heap.objs.size := by simpa using hb
    exact J1.fpOk (Nat.le_refl _) (J1.hok.fresh (Nat.le_refl _))
end
/-- a list or a tuple -/
def LT (H : Hp) (b : Addr) (xs : List V) : Prop := H b = some (.lst xs) ∨ H b = some (.tup xs)
theorem LT.same {H H' : Hp} {b : Addr} {xs : List V} (h : LT H b xs) (k : Same H H') : LT H' b xs := h.imp (k _ _) (k _ _)
theorem free_same {H H' : Hp} {a : Addr} (k : Same H H') (h : H' a = none) : H a = none := by
  cases e : H a with
  | none => rfl
  | some o => rw [k _ _ e] at h; cases h
end Sl
namespace Lw
open PySem PySem.Spec PyProof.Rows L2 Sl
section
variable {P : Program} {w : World} {K : PySem.W.Frag} {mg : Str → Option Value} {base : Heap} {f : Addr} {fd : FuncData}
theorem any_tuple : PySem.W.kitAny K (.type "tuple") [.type "list", .type "tuple"] = some true := by
  have h1 : PySem.W.kitOne K (.type "tuple") (.type "list") = some false := kit_ty (by decide +kernel)
  have h2 : PySem.W.kitOne K (.type "tuple") (.type "tuple") = some true := kit_ty (by decide +kernel)
  unfold PySem.W.kitAny
  rw [h1]
  unfold PySem.W.kitAny
  rw [h2]
theorem any_list : PySem.W.kitAny K (.type "list") [.type "list", .type "tuple"] = some true := by
  have h1 : PySem.W.kitOne K (.type "list") (.type "list") = some true := kit_ty (by decide +kernel)
  unfold PySem.W.kitAny
  rw [h1]
theorem LT.ty {H : Hp} {b : Addr} {xs : List V} (h : LT H b xs) : ∃ t, TyX K H (.ref b) t ∧ PySem.W.kitAny K t [.type "list", .type "tuple"] = some true := by
  rcases h with h | h
  · exact ⟨_, .base (.lst h), any_list⟩
  · exact ⟨_, .base (.tup h), any_tuple⟩
theorem LT.seq {H : Hp} {b : Addr} {xs : List V} (h : LT H b xs) : SqL K H b xs ∨ SqT K H b xs := h.imp SqL.of SqT.of
def sp_isturn : Sp := fun vs H Q _ => ∃ (b : Addr) (ws : List Str), vs = [.ref b] ∧ LT H b (ws.map V.str) ∧ ws.length ≤ 3 ∧ (∀ z ∈ ws, nameB z = true) ∧ ∀ H', Same H H' → Q (.bl true) H'
theorem all_true (n : Nat) : ((List.replicate n true).all id) = true := by
  induction n with
  | zero => rfl
  | succ n ih =>
    rw [List.replicate_succ, List.all_cons, ih]
    rfl
theorem ok_is_turn (F : FnP K "is_turn" s_is_turn [] f fd) (L : Cal P w K mg base 1 "is_list" [] (sp_islist K)) (N : Cal P w K mg base 1 "is_name" [] (sp_isname K)) (mLen : mg "len" = none) (mA : mg "all" = none) {t1 : Tok} (gM : mg "MOST_KINDS" = some (.int 3 t1)) : FnOk P w K mg base CX0 2 f fd ["thing"] sp_isturn := by
  refine F.ok sc_is_turn (fun vs H Q E h => ?_) (fun cdv A outer s H vs Q E hr h => ?_)
  · obtain ⟨b, ws, rfl, _⟩ := h
    rfl
  · obtain ⟨b, ws, rfl, hb, hl, hw, k⟩ := h
    have nd := sc_is_turn.nd
    refine ⟨_, PSs.nox (pss_one (ps_ret (pe_and (pe_cal L hr (pa_cons (pv 0) pa_nil)) (pe_and (pe_cmpR op_le (pe_callB call_len_seq (by rfl) mLen boot_len (pa_cons (pv 0) pa_nil)) (pe_glob (v := .int 3) (by rfl) gM ⟨_, rfl⟩) (nomark _))
      (pe_one (pe_callB (cr_all rfl) (by rfl) mA PyProof.Rows.Boot.«all» (pa_cons (pe_lc (own := [("kind", 1)]) (g := gName 1) (tt := tYes) rfl nd (pi_lt (pv 0)) (blkOk_by (N := ["thing", "kind"]) (sc := defScope s_is_turn) (by decide +kernel)) (fun _ _ _ _ _ => pg_name (i := 1) nd rfl (Or.inl rfl)) (fun _ _ _ _ _ => pts_nil) (fun _ _ _ _ _ => pe_cal N hr (pa_cons (pv 1) pa_nil))) pa_nil))))))), ?_⟩
    obtain ⟨t, ht, hk⟩ := Lw.LT.ty (K := K) hb
    refine ⟨_, rfl, _, t, rfl, ht, hk, fun H1 s1 => ⟨true, rfl, iteT ?_⟩⟩
    have hb1 := hb.same s1
    refine ⟨_, rfl, b, _, rfl, Lw.LT.seq hb1, (ws.map V.str).length, 3, rfl, rfl, ?_⟩
    refine ⟨_, rfl, ite_of (fun _ => ?_) (fun hc => ?_)⟩
    rotate_left
    · exfalso
      have := of_decide_eq_false hc
      rw [List.length_map] at this
      omega
    refine ⟨_, rfl, b, rfl, ?_⟩
    have turn : ∀ (D : Addr), H1 D = none → ∀ (i : Nat) (y : V) (H2 : Hp), (ws.map V.str)[i]? = some y → (Same H1 H2 ∧ H2 D = some (.lst ((List.replicate i true).map V.bl))) → gName 1 y (wipe [some (V.ref b), none] [1]) H2 fun σ2 H3 => wipe σ2 [1] = wipe [some (V.ref b), none] [1] ∧ tYes σ2 H3 fun c H4 =>
        if c = true then tCall (sp_isname K) [] E0 (tCons (tVar 1) tNil) σ2 H4 fun z H5 => ∃ acc, H5 D = some (.lst acc) ∧ acc.length < sizeLine ∧ (Same H1 (upd H5 D (.lst (acc ++ [z]))) ∧ (upd H5 D (.lst (acc ++ [z]))) D = some (.lst ((List.replicate (i + 1) true).map V.bl))) else (Same H1 H4 ∧ H4 D = some (.lst ((List.replicate (i + 1) true).map V.bl))) := by
      intro D hD i y H2 hy ⟨s2, hd⟩
      rw [List.getElem?_map] at hy
      obtain ⟨x, ex, ey⟩ := Option.map_eq_some_iff.mp hy
      subst ey
      have hi : i < ws.length := (List.getElem?_eq_some_iff.mp ex).1
      have hx := hw x (List.mem_of_getElem? ex)
      refine ⟨rfl, yes_of (iteT ⟨_, rfl, _, rfl, .inl ⟨x, rfl, (by have := nameB_len hx; omega), fun H3 s3 => ⟨_, s3 _ _ hd, ?_, ?_, ?_⟩⟩⟩)⟩
      · rw [List.length_map, List.length_replicate, sizeLine_eq]
        omega
      · intro c o e
        rw [upd_ne (ne_of_none e hD)]
        exact s3 _ _ (s2 _ _ e)
      · rw [upd_same, hx, List.replicate_succ', List.map_append]
        rfl
    have fin : ∀ (D : Addr) (H2 : Hp), (Same H1 H2 ∧ H2 D = some (.lst ((List.replicate (ws.map V.str).length true).map V.bl))) → ∃ (a : Addr) (bs : List Bool), V.ref D = V.ref a ∧ SqL K H2 a (bs.map V.bl) ∧ Q (.bl (bs.all id)) H2 := fun D H2 ⟨s2, hd⟩ => by
      refine ⟨D, _, rfl, SqL.of hd, ?_⟩
      rw [all_true]
      exact k _ (s1.trans s2)
    rcases hb1 with hb1 | hb1
    · refine .inl ⟨⟨_, SqL.of hb1⟩, fun D hD => lc_list (K := K) (a := b) (xs := ws.map V.str) (fun i H2 => Same H1 H2 ∧ H2 D = some (.lst ((List.replicate i true).map V.bl))) ⟨same_new hD, upd_same⟩ (fun i H2 _ ⟨s2, _⟩ => SqL.of (s2 _ _ hb1)) (turn D hD) fun H2 hp => ?_⟩
      obtain ⟨a, bs, e, z1, z2⟩ := fin D H2 hp
      exact ⟨a, bs, congrArg (fun v => [v]) e, z1, z2⟩
    · refine .inr ⟨⟨_, SqT.of hb1⟩, fun D hD => lc_tup (K := K) (a := b) (xs := ws.map V.str) (fun i H2 => Same H1 H2 ∧ H2 D = some (.lst ((List.replicate i true).map V.bl))) ⟨same_new hD, upd_same⟩ (fun i H2 _ ⟨s2, _⟩ => SqT.of (s2 _ _ hb1)) (turn D hD) fun H2 hp => ?_⟩
      obtain ⟨a, bs, e, z1, z2⟩ := fin D H2 hp
      exact ⟨a, bs, congrArg (fun v => [v]) e, z1, z2⟩
def sp_isbrought : Sp := fun vs H Q _ => ∃ i : Int, vs = [.int i] ∧ 1 ≤ i ∧ i ≤ 9 ∧ Q (.bl true) H
theorem ok_is_brought (F : FnP K "is_brought" s_is_brought [] f fd) (I : Cal P w K mg base 1 "is_integer" [] (sp_isint K)) {t1 : Tok} (gM : mg "MOST_BROUGHT" = some (.int 9 t1)) : FnOk P w K mg base CX0 2 f fd ["thing"] sp_isbrought := by
  refine F.ok sc_is_brought (fun vs H Q E h => ?_) (fun cdv A outer s H vs Q E hr h => ?_)
  · obtain ⟨i, rfl, _⟩ := h
    rfl
  · obtain ⟨i, rfl, h1, h9, k⟩ := h
    refine ⟨_, PSs.nox (pss_one (ps_ret (pe_and (pe_cal I hr (pa_cons (pv 0) pa_nil)) (pe_one (pe_chain op_le op_le pe_int (pv 0) (pe_glob (v := .int 9) (by rfl) gM ⟨_, rfl⟩)))))), ?_⟩
    refine ⟨_, rfl, i, rfl, true, rfl, iteT ⟨_, rfl, 1, i, rfl, rfl, _, rfl, ?_⟩⟩
    rw [decide_eq_true h1]
    refine iteT ⟨i, 9, rfl, rfl, ?_⟩
    show Q (.bl (decide (i ≤ 9))) H
    rw [decide_eq_true h9]
    exact k
/-! ### pairs -/
def KTup (K : PySem.W.Frag) (a : Addr) : Prop := ∀ H, SqT K H a [] ∧ TyX K H (.ref a) (.type "tuple")
def PArg (K : PySem.W.Frag) (H : Hp) (a : Addr) (kvs : List (Key × V)) : Prop := H a = some (.dK kvs) ∨ kvs = [] ∧ (H a = some (.tup []) ∨ H a = some (.lst []) ∨ KTup K a)
theorem sqT_same {K : PySem.W.Frag} {a : Addr} {H H' : Hp} {xs : List V} (h : SqT K H a xs) (k : Same H H') : SqT K H' a xs := by
  rcases h with (h | ⟨o, h⟩) | h
  · exact .inl (.inl (k _ _ h))
  · exact .inl (.inr ⟨o, k _ _ h⟩)
  · exact .inr h
theorem PArg.imp {H H' : Hp} {a : Addr} {kvs : List (Key × V)} (h : PArg K H a kvs) (k : ∀ o, (o = .dK kvs ∨ o = .tup [] ∨ o = .lst []) → H a = some o → H' a = some o) : PArg K H' a kvs := by
  rcases h with h | ⟨e, h | h | h⟩
  · exact .inl (k _ (.inl rfl) h)
  · exact .inr ⟨e, .inl (k _ (.inr (.inl rfl)) h)⟩
  · exact .inr ⟨e, .inr (.inl (k _ (.inr (.inr rfl)) h))⟩
  · exact .inr ⟨e, .inr (.inr h)⟩
theorem PArg.same {H H' : Hp} {a : Addr} {kvs : List (Key × V)} (h : PArg K H a kvs) (k : Same H H') : PArg K H' a kvs := h.imp fun o _ e => k _ _ e
def sp_pairs (K : PySem.W.Frag) : Sp := fun vs H Q _ => ∃ (a : Addr) (kvs : List (Key × V)), vs = [.ref a] ∧ PArg K H a kvs ∧
  ∀ (l : Addr) (ts : List Addr) (H' : Hp), H l = none → Same H H' → H' l = some (.lst (ts.map V.ref)) → Paired (fun (t : Addr) (q : Key × V) => H' t = some (.tup [kV q.1, q.2])) ts kvs → Q (.ref l) H'
theorem ok_pairs (F : FnP K "pairs_of" s_pairs_of [] f fd) (I : Cal P w K mg base 1 "is_list" [] (sp_islist K)) (mI : mg "isinstance" = none) (mD : mg "dict" = none) (mL : mg "list" = none) (mLen : mg "len" = none) :
    FnOk P w K mg base CX0 2 f fd ["thing"] (sp_pairs K) := by
  refine F.ok sc_pairs_of (fun vs H Q E h => ?_) (fun cdv A outer s H vs Q E hr h => ?_)
  · obtain ⟨v, t, rfl, _⟩ := h
    rfl
  · obtain ⟨a, kvs, rfl, ha, k⟩ := h
    refine ⟨_, PSs.nox (pss_cons (ps_if (pt_val (pe_callB call_isi (by rfl) mI PyProof.Rows.Boot.«isinstance» (pa_cons (pv 0) (pa_cons (pe_bltn (v := .ty "dict") (by rfl) mD PyProof.Rows.Boot.«dict» rfl) pa_nil))))
        (pss_one (ps_ret (LiI.pe_listItems rfl (pv 0) (by rfl) mL PyProof.Rows.Boot.«list»))) pss_nil)
      (pss_cons (ps_if (PW.pt (pw_and (pt_val (pe_cal I hr (pa_cons (pv 0) pa_nil))) (pw_and1 (pt_cmpR op_eq (pe_callB call_len_seq (by rfl) mLen boot_len (pa_cons (pv 0) pa_nil)) pe_int (nomark _)))))
        (pss_one (ps_ret (pe_lst pa_nil))) pss_nil)
      (pss_one ps_never))), ?_⟩
    rcases ha with ha | ⟨e, ha⟩
    · refine ifs_of ⟨_, rfl, _, .ty "dict", .type "dict", .type "dict", true, rfl, .ty _, .base (.dK ha), kit_ty (by decide +kernel), _, rfl, iteT ?_⟩
      exact ⟨_, rfl, a, _, rfl, ha, fun H' p ts sm hp _ _ hl hP => k p ts H' hp sm hl hP⟩
    · subst e
      have fin : ∀ H', Same H H' → ∀ p, H' p = none → Q (.ref p) (upd H' p (.lst [])) := fun H' sm p hp => k p [] _ (free_same sm hp) (sm.trans (same_new hp)) upd_same .nil
      have c2 : (H a = some (.lst [])) ∨ (SqT K H a [] ∧ TyX K H (.ref a) (.type "tuple")) := by
        rcases ha with ha | ha | ha
        · exact .inr ⟨SqT.of ha, .base (.tup ha)⟩
        · exact .inl ha
        · exact .inr (ha H)
      rcases c2 with ha | ⟨ha, ty⟩
      · refine ifs_of ⟨_, rfl, _, .ty "dict", _, .type "dict", false, rfl, .ty _, .base (.lst ha), kit_ty (by decide +kernel), _, rfl, iteF (nx_of ?_)⟩
        refine ifs_of ⟨_, rfl, _, _, rfl, .base (.lst ha), any_list, fun H' sm => ⟨_, rfl, iteT ⟨_, rfl, a, [], rfl, .inl (SqL.of (sm _ _ ha)), rfl, _, rfl, iteT ⟨Nat.zero_le _, fun p hp => fin H' sm p hp⟩⟩⟩⟩
      · refine ifs_of ⟨_, rfl, _, .ty "dict", _, .type "dict", false, rfl, .ty _, ty, kit_ty (by decide +kernel), _, rfl, iteF (nx_of ?_)⟩
        refine ifs_of ⟨_, rfl, _, _, rfl, ty, any_tuple, fun H' sm => ⟨_, rfl, iteT ⟨_, rfl, a, [], rfl, .inr (sqT_same ha sm), rfl, _, rfl, iteT ⟨Nat.zero_le _, fun p hp => fin H' sm p hp⟩⟩⟩⟩
end
end Lw
/-! ## StB -/
set_option Elab.async false
set_option linter.all false
set_option maxRecDepth 100000
set_option maxHeartbeats 8000000
set_option pp.deepTerms false
set_option pp.deepTerms.threshold 3
set_option pp.maxSteps 500
namespace Sl
open PySem PySem.Spec PyProof.Rows L2
theorem perm_back {α β : Type} {f : α → β} : ∀ {ys : List β} {l : List α}, ys.Perm (l.map f) → ∃ l' : List α, l'.Perm l ∧ l'.map f = ys
  | [], l, h => by
    have e : l.map f = [] := List.nil_perm.mp h
    have e2 : l = [] := List.map_eq_nil_iff.mp e
    exact ⟨[], by rw [e2], rfl⟩
  | y :: r, l, h => by
    have hy : y ∈ l.map f := h.subset List.mem_cons_self
    obtain ⟨a, ha, e⟩ := List.mem_map.mp hy
    obtain ⟨s, t, el⟩ := List.append_of_mem ha
    subst el
    have pm : (s ++ a :: t).Perm (a :: (s ++ t)) := List.perm_middle
    have h2 : (y :: r).Perm (y :: (s ++ t).map f) := h.trans (by rw [← e, ← List.map_cons]; exact pm.map f)
    obtain ⟨l', p1, p2⟩ := perm_back (ys := r) (l := s ++ t) (List.Perm.cons_inv h2)
    exact ⟨a :: l', (List.Perm.cons a p1).trans pm.symm, by rw [List.map_cons, e, p2]⟩
theorem paired_zip {α β : Type} {R : α → β → Prop} : ∀ {xs : List α} {ys : List β}, Paired R xs ys → ∃ ps : List (α × β), ps.map (·.1) = xs ∧ ps.map (·.2) = ys ∧ ∀ p ∈ ps, R p.1 p.2
  | _, _, .nil => ⟨[], rfl, rfl, fun _ h => absurd h List.not_mem_nil⟩
  | x :: _, y :: _, .cons r t => by
    obtain ⟨ps, h1, h2, h3⟩ := paired_zip t
    refine ⟨(x, y) :: ps, by rw [List.map_cons, h1], by rw [List.map_cons, h2], fun p hp => ?_⟩
    rcases List.mem_cons.mp hp with e | e
    · rw [e]
      exact r
    · exact h3 p e
theorem zip_paired {α β : Type} {R : α → β → Prop} : ∀ {ps : List (α × β)}, (∀ p ∈ ps, R p.1 p.2) → Paired R (ps.map (·.1)) (ps.map (·.2))
  | [], _ => .nil
  | p :: r, h => .cons (h p List.mem_cons_self) (zip_paired fun q hq => h q (List.mem_cons_of_mem _ hq))
theorem inj_of_nodup {α β : Type} {g : α → β} : ∀ {l : List α}, (l.map g).Nodup → ∀ x ∈ l, ∀ y ∈ l, g x = g y → x = y
  | [], _, x, hx, _, _, _ => absurd hx List.not_mem_nil
  | a :: r, h, x, hx, y, hy, e => by
    obtain ⟨h1, h2⟩ := List.nodup_cons.mp (show (g a :: r.map g).Nodup from h)
    rcases List.mem_cons.mp hx with ex | ex
    · rcases List.mem_cons.mp hy with ey | ey
      · rw [ex, ey]
      · exact absurd (List.mem_map.mpr ⟨y, ey, by rw [← e, ex]⟩) h1
    · rcases List.mem_cons.mp hy with ey | ey
      · exact absurd (List.mem_map.mpr ⟨x, ex, by rw [e, ey]⟩) h1
      · exact inj_of_nodup h2 x ex y ey e
def kAt (H : Hp) : V → Str
  | .ref t => match H t with
    | some (.tup (.str z :: _)) => z
    | _ => ""
  | _ => ""
/-- sorted(pairs): the same pairs, by their names -/
theorem sorted_pairs {α : Type} {nm : α → Str} {vl : α → V} {H : Hp} {K : PySem.W.Frag} {l : Addr} {ts : List Addr} {as : List α} {Q : VK} (hl : SqL K H l (ts.map V.ref)) (hP : Paired (fun (t : Addr) (a : α) => H t = some (.tup [.str (nm a), vl a])) ts as) (hn : (as.map nm).Nodup)
    (k : ∀ (ts' : List Addr) (as' : List α) (p : Addr), Paired (fun (t : Addr) (a : α) => H t = some (.tup [.str (nm a), vl a])) ts' as' → as'.Perm as → (as'.map nm).Pairwise leS → H p = none → Q (.ref p) (upd H p (.lst (ts'.map V.ref)))) : rSortedSP K [V.ref l] H Q := by
  obtain ⟨ps, e1, e2, hps⟩ := paired_zip hP
  subst e1 e2
  have kp : ∀ p ∈ ps, kAt H (.ref p.1) = nm p.2 := fun p hp => by
    show kAt H (.ref p.1) = _
    simp only [kAt, hps p hp]
  have hn' : (ps.map fun p => nm p.2).Nodup := by
    rw [List.map_map] at hn
    exact hn
  refine ⟨l, (ps.map (·.1)).map V.ref, kAt H, rfl, hl, fun x hx => ?_, fun x hx y hy e => ?_, fun ys p so pm hp => ?_⟩
  · rw [List.map_map] at hx
    obtain ⟨q, hq, rfl⟩ := List.mem_map.mp hx
    exact ⟨q.1, vl q.2, rfl, by show H q.1 = some (.tup [.str (kAt H (.ref q.1)), _]); rw [kp q hq]; exact hps q hq⟩
  · rw [List.map_map] at hx hy
    obtain ⟨q, hq, rfl⟩ := List.mem_map.mp hx
    obtain ⟨r, hr, rfl⟩ := List.mem_map.mp hy
    have e' : nm q.2 = nm r.2 := by
      have : kAt H (.ref q.1) = kAt H (.ref r.1) := e
      rwa [kp q hq, kp r hr] at this
    have : q = r := by
      exact inj_of_nodup hn' q hq r hr e'
    rw [this]
  · have pm2 : ys.Perm (ps.map fun q : Addr × α => V.ref q.1) := by
      rw [List.map_map] at pm
      exact pm
    obtain ⟨ps', p1, p2⟩ := perm_back pm2
    have e3 : ys = (ps'.map (·.1)).map V.ref := by
      rw [← p2, List.map_map]
      exact List.map_congr_left fun _ _ => rfl
    subst e3
    refine k (ps'.map (·.1)) (ps'.map (·.2)) p (zip_paired fun q hq => hps q (p1.mem_iff.mp hq)) (p1.map _) ?_ hp
    have so' : ((ps'.map (·.1)).map V.ref).Pairwise (fun a b => ltk (kAt H) b a = false) := so
    rw [List.map_map, List.pairwise_map] at so'
    rw [List.map_map, List.pairwise_map]
    refine List.Pairwise.imp_of_mem (fun {a b} ha hb h => ?_) so'
    have h1 := kp a (p1.mem_iff.mp ha)
    have h2 := kp b (p1.mem_iff.mp hb)
    have h3 : decide ((kAt H (.ref b.1)).cps.toList < (kAt H (.ref a.1)).cps.toList) = false := h
    rw [h1, h2] at h3
    exact of_decide_eq_false h3
end Sl
namespace Lw
open PySem PySem.Spec PyProof.Rows L2 Sl
section
variable {P : Program} {w : World} {K : PySem.W.Frag} {mg : Str → Option Value} {base : Heap} {f : Addr} {fd : FuncData}
def rTO (K : PySem.W.Frag) : List V → Hp → VK → Prop := fun xs H Q => ∃ p ys, xs = [.ref p] ∧ ((SqL K H p ys ∧ ∀ l, H l = none → Q (.ref l) (upd H l (.tup ys))) ∨ (SqT K H p ys ∧ Q (.ref p) H))
/-- turns told by lists or tuples -/
def TAt (H : Hp) (T : TT') : Prop := ∀ t ∈ T, LT H t.2.1 (t.2.2.map V.str) ∧ t.2.2.length ≤ 3 ∧ ∀ z ∈ t.2.2, nameB z = true
theorem TAt.same {H H' : Hp} {T : TT'} (h : TAt H T) (k : Same H H') : TAt H' T := fun t ht => ⟨(h t ht).1.same k, (h t ht).2⟩
structure okT (T : TT') : Prop where
  nd : (T.map (·.1)).Nodup
  nm : ∀ t ∈ T, nameB t.1 = true
  ln : T.length ≤ 60
/-- what a statement keeps of them -/
structure TKeep (T' T : TT') : Prop where
  so : (T'.map (·.1)).Pairwise leS
  pm : (ct T').Perm (ct T)
def sp_cturns (K : PySem.W.Frag) : Sp := fun vs H Q _ => ∃ (a : Addr) (T : TT'), vs = [.ref a] ∧ PArg K H a (T.map tkv) ∧ TAt H T ∧ okT T ∧ ∀ (d : Addr) (T' : TT') (H' : Hp), H d = none → Same H H' → TupsAt H' d T' → TKeep T' T → Q (.ref d) H'
abbrev ctN : List Str := ["told", "pairs", "kind", "kinds"]
theorem ok_cturns (F : FnP K "checked_turns" s_checked_turns [] f fd) (Pr : Cal P w K mg base 2 "pairs_of" [] (sp_pairs K)) (N : Cal P w K mg base 1 "is_name" [] (sp_isname K)) (I : Cal P w K mg base 2 "is_turn" [] sp_isturn) (mT : mg "tuple" = none) (mS : mg "sorted" = none) :
    FnOk P w K mg base CX0 3 f fd ["told"] (sp_cturns K) := by
  refine F.ok sc_checked_turns (fun vs H Q E h => ?_) (fun cdv A outer s H vs Q E hr h => ?_)
  · obtain ⟨a, T, rfl, _⟩ := h
    rfl
  · obtain ⟨a, T, rfl, ha, hT, oT, k⟩ := h
    have nd := sc_checked_turns.nd
    have hr1 := hr.mono (show 1 ≤ 2 by decide)
    refine ⟨_, PSs.nox (pss_cons (ps_set (i := 1) nd rfl (.inl rfl) (pe_cal Pr hr (pa_cons (pv 0) pa_nil)))
      (pss_cons (ps_for PassesOwn.never rfl (pi_list (pv 1)) (pg_tup rfl (pgs_cons (pg_name (i := 2) nd rfl (Or.inl rfl)) (pgs_cons (pg_name (i := 3) nd rfl (Or.inl rfl)) pgs_nil)))
        (pss_one (ps_if (PW.pt (pw_or (pt_not (pt_val (pe_cal N hr1 (pa_cons (pv 2) pa_nil)))) (pw_or1 (pt_not (pt_val (pe_cal I hr (pa_cons (pv 3) pa_nil))))))) (pss_one ps_never) pss_nil)))
      (pss_one (ps_ret (pe_dc (own := [("kind", 2), ("kinds", 3)]) (g := gTup K 2 (gCons (gName 2) (gCons (gName 3) gNil))) (tt := tYes) (tv := tCB (rTO K) (tCons (tVar 3) tNil)) rfl nd (pi_list (pe_callB (r := rSortedSP K) (cr_sortedSP) (by rfl) mS (by decide +kernel) (pa_cons (pv 1) pa_nil))) (blkOk_by (N := ctN) (sc := defScope s_checked_turns) (by decide +kernel))
        (fun _ _ _ _ _ => pg_two (i := 2) (j := 3) rfl nd rfl rfl (Or.inl rfl) (Or.inl rfl)) (fun _ _ _ _ _ => pts_nil) (fun _ _ _ _ _ => pv 2) (fun _ _ _ _ _ => pe_callTy (r := rTO K) call_tuple_of (by rfl) mT (by decide +kernel) (pa_cons (pv 3) pa_nil))))))), ?_⟩
    show tSeq (tAsg _ (gName 1)) _ _ [some (V.ref a), none, none, none] H
    refine asg_of ⟨_, rfl, a, T.map tkv, rfl, ha, fun l ts H1 hl1 s1 hls hP0 => ?_⟩
    have hP : Paired (fun (t : Addr) (u : Str × Addr × List Str) => H1 t = some (.tup [.str u.1, .ref u.2.1])) ts T := by
      obtain ⟨ps, e1, e2, hps⟩ := paired_zip hP0
      obtain ⟨qs, e3, e4⟩ : ∃ qs : List (Addr × (Str × Addr × List Str)), qs.map (·.1) = ts ∧ qs.map (·.2) = T ∧ ps = qs.map fun q => (q.1, tkv q.2) := by
        have hl : ts.length = T.length := by rw [← e1, List.length_map, ← List.length_map (f := (·.2)) (as := ps), e2, List.length_map]
        refine ⟨ts.zip T, ?_, ?_, ?_⟩
        · rw [List.map_fst_zip (by omega)]
        · rw [List.map_snd_zip (by omega)]
        · refine List.ext_getElem? fun i => ?_
          rw [List.getElem?_map]
          by_cases hi : i < ts.length
          · have hi2 : i < T.length := by omega
            have hi3 : i < ps.length := by rw [← e1, List.length_map] at hi; exact hi
            rw [List.getElem?_eq_getElem hi3, List.getElem?_eq_getElem (by rw [List.length_zip]; omega), List.getElem_zip]
            have a1 : ps[i].1 = ts[i] := by
              have : (ps.map (·.1))[i]? = ts[i]? := by rw [e1]
              rw [List.getElem?_map, List.getElem?_eq_getElem hi3, List.getElem?_eq_getElem hi] at this
              exact Option.some.inj this
            have a2 : ps[i].2 = tkv T[i] := by
              have : (ps.map (·.2))[i]? = (T.map tkv)[i]? := by rw [e2]
              rw [List.getElem?_map, List.getElem?_map, List.getElem?_eq_getElem hi3, List.getElem?_eq_getElem hi2] at this
              exact Option.some.inj this
            exact congrArg some (Prod.ext a1 a2)
          · have hi3 : ¬ i < ps.length := by rw [← e1, List.length_map] at hi; exact hi
            rw [List.getElem?_eq_none (by omega), List.getElem?_eq_none (by rw [List.length_zip]; omega)]
            rfl
      obtain ⟨e4, e5⟩ := e4
      rw [← e3, ← e4]
      refine zip_paired fun q hq => ?_
      exact hps (q.1, tkv q.2) (by rw [e5]; exact List.mem_map.mpr ⟨q, hq, rfl⟩)
    have tup : ∀ (i : Nat) (t : Addr), ts[i]? = some t → ∃ u, T[i]? = some u ∧ H1 t = some (.tup [.str u.1, .ref u.2.1]) := fun i t e => paired_at hP e
    show tSeq (tFor (iList K (tVar 1)) _ _) _ _ [some (V.ref a), some (V.ref l), none, none] H1
    refine ⟨_, rfl, l, rfl, ⟨_, SqL.of hls⟩, ?_⟩
    refine for_list (K := K) (a := l) (xs := ts.map V.ref) (fun i σ H' => Same H1 H' ∧ ∃ y z, σ = [some (V.ref a), some (V.ref l), y, z]) ⟨fun _ _ e => e, none, none, rfl⟩ (fun i σ H' _ ⟨s2, _⟩ => SqL.of (s2 _ _ hls)) ?_ ?_
    · rintro i x σ H' hx ⟨s2, y, z, rfl⟩
      rw [List.getElem?_map] at hx
      obtain ⟨t, et, ex⟩ := Option.map_eq_some_iff.mp hx
      subst ex
      obtain ⟨u, hu, ht⟩ := tup i t et
      have huT := List.mem_of_getElem? hu
      have hnm := oT.nm u huT
      obtain ⟨lt, l3, hz⟩ := hT.same (s1.trans s2) u huT
      refine ⟨t, _, rfl, SqT.of (s2 _ _ ht), rfl, _, _, rfl, _, _, rfl, rfl, ?_⟩
      refine or_of ⟨_, rfl, _, rfl, .inl ⟨u.1, rfl, (by have := nameB_len hnm; omega), fun H3 s3 => ⟨_, rfl, ?_⟩⟩⟩
      rw [hnm]
      refine iteF ⟨_, rfl, u.2.1, u.2.2, rfl, lt.same s3, l3, hz, fun H4 s4 => ⟨true, rfl, iteF ⟨s2.trans (s3.trans s4), _, _, rfl⟩⟩⟩
    · rintro σ H2 ⟨s2, y, z, rfl⟩
      have hls2 := s2 _ _ hls
      have hP2 : Paired (fun (t : Addr) (u : Str × Addr × List Str) => H2 t = some (.tup [.str u.1, V.ref u.2.1])) ts T := paired_same (fun _ _ r => s2 _ _ r) hP
      refine ⟨_, rfl, ?_⟩
      dsimp only [tNil]
      refine sorted_pairs (nm := fun u : Str × Addr × List Str => u.1) (vl := fun u => V.ref u.2.1) (SqL.of hls2) hP2 oT.nd fun ts' T1 p hP3 pm so hp => ?_
      refine ⟨p, rfl, ⟨_, SqL.of upd_same⟩, fun D hD => ?_⟩
      have s3 := s2.trans (same_new (o := .lst (ts'.map V.ref)) hp)
      have ep : (upd H2 p (.lst (ts'.map V.ref))) p = some (.lst (ts'.map V.ref)) := upd_same
      have hP4 : Paired (fun (t : Addr) (u : Str × Addr × List Str) => (upd H2 p (.lst (ts'.map V.ref))) t = some (.tup [.str u.1, V.ref u.2.1])) ts' T1 := paired_same (fun _ _ r => same_new hp _ _ r) hP3
      generalize upd H2 p (.lst (ts'.map V.ref)) = H3 at s3 ep hP4 hD
      have hT3 := hT.same (s1.trans s3)
      have lts : ts'.length = T1.length := hP4.length
      have lT1 : T1.length = T.length := pm.length_eq
      have nT1 : (T1.map (·.1)).Nodup := (pm.map _).nodup_iff.mpr oT.nd
      refine dc_it (walk_list (xs := ts'.map V.ref)) (fun i H' => Same H3 H' ∧ ∃ T' : TT', ct T' = ct (T1.take i) ∧ H' D = some (.dK (T'.map tkv)) ∧ ∀ t ∈ T', H' t.2.1 = some (.tup (t.2.2.map V.str)) ∧ ∀ z ∈ t.2.2, nameB z = true)
        ⟨same_new hD, [], rfl, upd_same, fun _ h => absurd h List.not_mem_nil⟩ (fun i H' _ ⟨s4, _⟩ => SqL.of (s4 _ _ ep)) ?_ ?_
      · rintro i x Ha Hb hi ⟨s4, T', eT, hdD, hT'⟩ ⟨e, hx⟩
        subst e
        rw [List.getElem?_map] at hx
        obtain ⟨t, et, ex⟩ := Option.map_eq_some_iff.mp hx
        subst ex
        obtain ⟨u, hu, ht⟩ := paired_at hP4 et
        have huT := pm.mem_iff.mp (List.mem_of_getElem? hu)
        obtain ⟨lt, l3, hz⟩ := hT3 u huT
        have lt4 := lt.same s4
        have fk : u.1 ∉ T'.map (·.1) := by
          rw [← kg_ct, eT, kg_ct]
          intro hm
          have h1 : ((T1.take (i + 1)).map (·.1)).Nodup := List.Nodup.sublist (List.Sublist.map _ (List.take_sublist _ _)) nT1
          rw [List.take_succ, hu, List.map_append, List.nodup_append] at h1
          exact h1.2.2 u.1 hm u.1 (List.mem_map.mpr ⟨u, List.mem_singleton.mpr rfl, rfl⟩) rfl
        have lT' : T'.length ≤ 60 := by
          have h1 : (ct T').length = T'.length := List.length_map _
          have h2 : (ct (T1.take i)).length = (T1.take i).length := List.length_map _
          rw [← h1, eT, h2, List.length_take]
          have := oT.ln
          omega
        have fin : ∀ (v : Addr) (H5 : Hp), Same Hb H5 → H5 v = some (.tup (u.2.2.map V.str)) → ∃ kvs kk, V.str u.1 = kV kk ∧ H5 D = some (.dK kvs) ∧ kvs.length < sizeLine ∧ (Same H3 (upd H5 D (.dK (putK kvs kk (.ref v)))) ∧ ∃ T2 : TT', ct T2 = ct (T1.take (i + 1)) ∧ (upd H5 D (.dK (putK kvs kk (.ref v)))) D = some (.dK (T2.map tkv)) ∧ ∀ t ∈ T2, (upd H5 D (.dK (putK kvs kk (.ref v)))) t.2.1 = some (.tup (t.2.2.map V.str)) ∧ ∀ z ∈ t.2.2, nameB z = true) := by
          intro v H5 s5 hv
          have hD5 := s5 _ _ hdD
          refine ⟨_, .inr u.1, rfl, hD5, by rw [List.length_map, sizeLine_eq]; omega, fun c o e => ?_, T' ++ [(u.1, v, u.2.2)], ?_, ?_, fun q hq => ?_⟩
          · rw [upd_ne (ne_of_none e hD)]
            exact s5 _ _ (s4 _ _ e)
          · show List.map _ _ = List.map _ _
            rw [List.map_append, List.take_succ, hu, List.map_append]
            show ct T' ++ _ = ct (T1.take i) ++ _
            rw [eT]
            rfl
          · rw [upd_same, putK_tkv T' u.1 v u.2.2 fk]
          · have ne : ∀ {c : Addr} {xs : List V}, H5 c = some (.tup xs) → c ≠ D := fun {c xs} h z => by rw [z, hD5] at h; cases h
            rcases List.mem_append.mp hq with h | h
            · have := s5 _ _ (hT' q h).1
              rw [upd_ne (ne this)]
              exact ⟨this, (hT' q h).2⟩
            · rw [List.mem_singleton.mp h]
              show (upd H5 D _) v = _ ∧ _
              rw [upd_ne (ne hv)]
              exact ⟨hv, hz⟩
        refine ⟨t, _, rfl, SqT.of (s4 _ _ ht), rfl, _, _, rfl, _, _, rfl, rfl, rfl, yes_of (iteT ⟨_, rfl, _, rfl, u.2.1, u.2.2.map V.str, rfl, ?_⟩)⟩
        rcases lt4 with h | h
        · exact .inl ⟨SqL.of h, fun v hv => fin v _ (same_new hv) upd_same⟩
        · exact .inr ⟨SqT.of h, fin u.2.1 _ (fun _ _ e => e) h⟩
      · rintro H4 ⟨s4, T', eT, hdD, hT'⟩
        rw [List.length_map, lts, List.take_length] at eT
        refine k D T' H4 (free_same (s1.trans s3) hD) (s1.trans (s3.trans s4)) ⟨hdD, hT'⟩ ⟨?_, ?_⟩
        · rw [← kg_ct, eT, kg_ct]
          exact so
        · rw [eT]
          exact pm.map _
end
end Lw
/-! ## SlSet -/
set_option Elab.async false
set_option linter.all false
set_option maxRecDepth 100000
set_option maxHeartbeats 4000000
/-! a set of texts of any length: made of a list, sorted -/
namespace Sl
open PySem PySem.Spec PyProof.Rows L2
def strOf : Value → Str
  | .str x _ => x
  | _ => ""
def mem0 (D : Froz.SD) : List Str := D.1.toList.map fun e => strOf e.2
/-- the payload holds the texts l, and can be walked -/
structure TxS (P : Program) (w : World) (D : Froz.SD) (l : List Str) : Prop where
  ok : Froz.TxOk P w D l
  pm : (mem0 D).Perm l
  ris : Ris D.2.2.place.toList
  led : w.params.followText "set-order" = true ∨ D.2.2.led = true
abbrev setNew (w : World) : Froz.SD := (#[], 0, .fresh 0 0 (!w.params.followText "set-order"))
section
variable {P : Program} {w : World} {A : Around} {E : Value → Shared → Prop} {s : Shared}
theorem TxS.zero : TxS P w (setNew w) [] := ⟨Froz.TxOk.nil rfl, List.Perm.refl _, List.Pairwise.nil, by
  cases h : w.params.followText "set-order"
  · exact .inr (by show (!w.params.followText "set-order") = true; rw [h]; rfl)
  · exact .inl rfl⟩
theorem mem0_tail {ep : Nat} {es : Array (Int × Value)} {t : SetTable} {d : Bool} {l : List Str} (pm : (es.toList.map fun e => strOf e.2).Perm l) (hr : Ris t.place.toList) (hl : w.params.followText "set-order" = true ∨ t.led = true) :
    (mem0 (Froz.tailTx ep es t d)).Perm l ∧ Ris (Froz.tailTx ep es t d).2.2.place.toList ∧ (w.params.followText "set-order" = true ∨ (Froz.tailTx ep es t d).2.2.led = true) := by
  unfold Froz.tailTx
  split
  · exact ⟨((relayAll_perm t es (SetTable.grown es.size)).map _).trans pm, relayAll_ris .., hl.imp id fun h => (relayAll_led ..).trans h⟩
  · exact ⟨pm, hr, hl⟩
theorem TxS.more {D : Froz.SD} {l : List Str} (T : TxS P w D l) (k : Str) (u : Tok) : TxS P w (Froz.addTx (hashStr w k) (.str k u) D) (k :: l) := by
  obtain ⟨es, ep, t⟩ := D
  obtain ⟨o, pm, hr, hl⟩ := T
  have p1 : ((layNew t es (hashStr w k) (.str k u)).1.toList.map fun e => strOf e.2).Perm (k :: l) := by
    have p0 := (layNew_perm t es (hashStr w k) (.str k u)).map fun e => strOf e.2
    rw [Array.toList_push, List.map_append] at p0
    exact (p0.trans List.perm_append_comm).trans (List.Perm.cons k pm)
  have r1 := layNew_ris t es (hashStr w k) (.str k u) hr
  have l1 : w.params.followText "set-order" = true ∨ (layNew t es (hashStr w k) (.str k u)).2.1.led = true := hl.imp id fun h => (layNew_led ..).trans h
  have z := mem0_tail (w := w) (ep := ep) (d := (layNew t es (hashStr w k) (.str k u)).2.2.1) (t := if (layNew t es (hashStr w k) (.str k u)).2.1.plain = true then { (layNew t es (hashStr w k) (.str k u)).2.1 with plain := false } else (layNew t es (hashStr w k) (.str k u)).2.1) p1 (by split <;> exact r1) (by split <;> exact l1)
  exact ⟨Froz.add_ok u o, z.1, z.2.1, z.2.2⟩
theorem is_shape {k : Str} {v : Value} (h : (strKind P w).is k v = true) : ∃ u, v = .str k u := Value.isStrOf_shape (x := k) (v := v) h
theorem TxS.strs {D : Froz.SD} {l : List Str} (T : TxS P w D l) : ∀ v ∈ D.1.toList.map (·.2), ∃ x u, v = Value.str x u := fun v hv => by
  obtain ⟨e, he, rfl⟩ := List.mem_map.mp hv
  obtain ⟨⟨k, h, _⟩, _⟩ := T.ok.el e he
  obtain ⟨u, e2⟩ := is_shape (P := P) (w := w) h
  exact ⟨k, u, e2⟩
theorem strsAre_of : ∀ {vs : List Value}, (∀ v ∈ vs, ∃ x u, v = Value.str x u) → StrsAre vs (vs.map strOf)
  | [], _ => .nil
  | v :: r, h => by
    obtain ⟨x, u, rfl⟩ := h v List.mem_cons_self
    exact .cons x u (strsAre_of fun y hy => h y (List.mem_cons_of_mem _ hy))
/-- one more text -/
theorem tx_add {a : Addr} {D : Froz.SD} {l : List Str} {k : Str} {u : Tok} {Q : Bool → Shared → Prop} (ho : s.heap.get? a = some (Froz.sObj "set" D)) (T : TxS P w D l) (hb : l.length + 1 < scanBound)
    (h : ∀ (b : Bool) (h' : Heap) (D' : Froz.SD) (l' : List Str), Heap.SameBut a s.heap h' → h'.get? a = some (Froz.sObj "set" D') → TxS P w D' l' → l' = (if k ∈ l then l else k :: l) → Q b { s with heap := h' }) :
    wpAny (model P w) A (setAddHashed a (.str k u) (hashStr w k)) Q E s := by
  by_cases hk : k ∈ l
  · obtain ⟨es, ep, t⟩ := D
    have F := T.ok
    have hd : (Froz.sObj "set" (es, ep, t)).data = .set es ep t := rfl
    have hsz : es.size = l.length := F.sz
    have hi : (strKind P w).is k (.str k u) = true := Froz.is_str k u
    have q := h false s.heap (es, ep, t) l (Heap.SameBut.refl a s.heap) ho T (by rw [if_pos hk])
    unfold setAddHashed setAddHashedIn
    refine wpAny_holding (wpAny_bind (wpAny_setState_of ho hd F.fit ?_))
    dsimp only
    rw [byScan_of rfl (show es.size < scanBound by omega) F.el, if_pos rfl]
    unfold setAddByScan
    refine wpAny_bind (wpAny_bind (wpAny_rule (wpAny_bind (wpAny_setScan_of (knd := strKind P w) (k := k) hi ho hd F.fit F.el ?_))))
    cases hf : List.findIdx? (fun e => (strKind P w).is k e.2) es.toList with
    | none =>
      obtain ⟨e, he, hh⟩ := (F.mem k).mp hk
      have := List.findIdx?_eq_none_iff.mp hf e he
      rw [hh] at this
      cases this
    | some j => exact wpAny_pure (wpAny_pure q)
  · refine Froz.add_x ho T.ok hk hb ?_
    exact h true _ _ (k :: l) (Heap.SameBut.update s.heap a _) (Froz.get_upd _ ho rfl) (T.more k u) (by rw [if_neg hk])
/-- what has been met of a list -/
def dd (xs : List Str) (i : Nat) : List Str := (xs.take i).foldl (fun l k => if k ∈ l then l else k :: l) []
theorem dd_succ {xs : List Str} {i : Nat} {k : Str} (h : xs[i]? = some k) : dd xs (i + 1) = if k ∈ dd xs i then dd xs i else k :: dd xs i := by
  unfold dd
  rw [List.take_succ, h, List.foldl_append]
  rfl
theorem dd_len (xs : List Str) : ∀ i, (dd xs i).length ≤ i
  | 0 => Nat.le_refl _
  | i + 1 => by
    have ih := dd_len xs i
    cases h : xs[i]? with
    | none =>
      have e : dd xs (i + 1) = dd xs i := by
        unfold dd
        rw [List.take_succ, h]
        simp
      rw [e]
      omega
    | some k =>
      rw [dd_succ h]
      split
      · omega
      · rw [List.length_cons]
        omega
theorem dd_nodup (xs : List Str) : ∀ i, (dd xs i).Nodup
  | 0 => List.nodup_nil
  | i + 1 => by
    have ih := dd_nodup xs i
    cases h : xs[i]? with
    | none =>
      have e : dd xs (i + 1) = dd xs i := by
        unfold dd
        rw [List.take_succ, h]
        simp
      rw [e]
      exact ih
    | some k =>
      rw [dd_succ h]
      split
      · exact ih
      · exact List.nodup_cons.mpr ⟨by assumption, ih⟩
theorem dd_mem (xs : List Str) (x : Str) : ∀ i, x ∈ dd xs i ↔ x ∈ xs.take i
  | 0 => Iff.rfl
  | i + 1 => by
    have ih := dd_mem xs x i
    cases h : xs[i]? with
    | none =>
      have e : dd xs (i + 1) = dd xs i := by
        unfold dd
        rw [List.take_succ, h]
        simp
      rw [e, ih, List.take_succ, h]
      simp
    | some k =>
      rw [dd_succ h, List.take_succ, h, List.mem_append, ← ih]
      split
      · rename_i hk
        refine ⟨.inl, fun z => z.elim id fun z => ?_⟩
        have : x = k := by simpa using z
        rw [this]
        exact hk
      · rw [List.mem_cons, Or.comm]
        simp
theorem tx_loop {I : Addr} {fp wr : List Addr} {G : Array GenState → Array GenState → Prop} {n : Nat} {Pv : Nat → Value → Prop} {St : Nat → Shared → Prop} {R : Result → Shared → Prop}
    (W : WalksS P w A.in1 I fp wr G n Pv St) (S : Addr) (nf : S ∉ fp) (xs : List Str) (en : n = xs.length) (hb : xs.length + 1 < scanBound) (hv : ∀ i v, Pv i v → ∃ k t, xs[i]? = some k ∧ v = .str k t)
    (fin : ∀ s1 s' D, Moved (S :: wr) G s1 s' → s'.heap.get? S = some (Froz.sObj "set" D) → TxS P w D (dd xs n) → s1 = s → R (.ok (.ret .none)) s') :
    ∀ (m i : Nat) (s1 : Shared), n - i = m → i ≤ n → St i s1 → (i = 0 → s1 = s) → (i ≠ 0 → Moved (S :: wr) G s s1) → (∃ D, s1.heap.get? S = some (Froz.sObj "set" D) ∧ TxS P w D (dd xs i)) → codeAny (model P w) A (.builtin "set.update.loop" ⟨[.ref S, .ref I], []⟩) R s1
  | 0, i, s1, hm, hi, hst, z0, z1, ⟨D, hD, T⟩ => by
    obtain rfl : i = n := by omega
    have nw : S ∉ wr := fun h => nf (W.sub _ h)
    refine codeAny_builtin PyProof.Rows.F.entry_set_update_loop ?_; rw [Around.under_plainId PyProof.Rows.F.plain_set_update_loop _]
    show wpAny _ A.in1 (pyNext (.ref I) >>= _) _ _ s1; refine wpAny_bind (W.done s1 _ _ hst fun s2 hm2 => wpAny_pure ?_)
    have g2 := hm2.heap S _ nw hD
    have m2 : Moved (S :: wr) G s1 s2 := hm2.mono fun b hb => List.mem_cons_of_mem _ hb
    by_cases e : i = 0
    · exact fin s1 s2 D m2 g2 T (z0 e)
    · exact fin s s2 D (Moved.trans W.gtrans (z1 e) m2) g2 T rfl
  | m + 1, i, s1, hm, hi, hst, z0, z1, ⟨D, hD, T⟩ => by
    have lt : i < n := by omega
    have nw : S ∉ wr := fun h => nf (W.sub _ h)
    refine codeAny_builtin PyProof.Rows.F.entry_set_update_loop ?_; rw [Around.under_plainId PyProof.Rows.F.plain_set_update_loop _]
    show wpAny _ A.in1 (pyNext (.ref I) >>= _) _ _ s1; refine wpAny_bind (W.item i s1 _ _ lt hst fun v s2 hp hst2 hm2 => ?_)
    obtain ⟨k, t, hk, rfl⟩ := hv i v hp
    refine wpAny_bind (m := holding [Value.str k t] (setAdd S (.str k t))) (wpAny_holding ?_)
    unfold setAdd
    refine wpAny_holding (wpAny_bind ((strKind P w).pyHash (k := k) (Froz.is_str k t) ?_))
    have hl : (dd xs i).length + 1 < scanBound := by
      have := dd_len xs i
      omega
    refine tx_add (s := { s2 with toks := s2.toks + 1 }) (hm2.heap S _ nw hD) T hl fun b h' D' l' hsb hD' T' el => ?_
    rw [← dd_succ hk] at el
    subst el
    have m2 : Moved (S :: wr) G s1 { s2 with heap := h', toks := s2.toks + 1 } := (hm2.mono fun b hb => List.mem_cons_of_mem _ hb).then_heap (Nat.le_succ _) fun b o hb e => by
      rw [hsb.2 b fun h : b = S => hb (by rw [h]; exact List.mem_cons_self)]
      exact e
    refine wpAny_pure ⟨plainId_quiet PyProof.Rows.F.plain_set_update_loop _, tx_loop W S nf xs en hb hv fin m (i + 1) _ (by omega) lt (W.frame _ s2 _ _ hst2 (Nat.le_succ _) fun b hb o e => ?_) (fun z => by omega) (fun _ => ?_) ⟨D', hD', T'⟩⟩
    · rw [hsb.2 b fun h : b = S => nf (by rw [← h]; exact hb)]
      exact e
    · by_cases e : i = 0
      · rw [← z0 e]
        exact m2
      · exact Moved.trans W.gtrans (z1 e) m2
end
end Sl
/-! ## SlSet2 -/
set_option Elab.async false
set_option linter.all false
set_option maxRecDepth 100000
set_option maxHeartbeats 4000000
set_option pp.deepTerms false
set_option pp.deepTerms.threshold 3
set_option pp.maxSteps 500
namespace Sl
open PySem PySem.Spec PyProof.Rows L2
theorem txs_at : ∀ {us : List Value} {xs : List Str}, StrsAre us xs → ∀ (i : Nat) (v : Value), us[i]? = some v → ∃ k t, xs[i]? = some k ∧ v = .str k t
  | _, _, .nil, i, v, h => by simp at h
  | _, _, .cons n t r, 0, v, h => ⟨n, t, rfl, by simpa using h.symm⟩
  | _, _, .cons n t r, i + 1, v, h => by
    obtain ⟨k, u, e1, e2⟩ := txs_at r i v (by simpa using h)
    exact ⟨k, u, by simpa using e1, e2⟩
section
variable {P : Program} {w : World} {A : Around} {E : Value → Shared → Prop} {s : Shared}
abbrev setOb (w : World) : Obj := { cls := .type "set", dict := none, data := .set #[] 0 (.fresh 0 0 (!w.params.followText "set-order")) }
theorem call_set_txs {l : Addr} {its : Array Value} (xs : List Str) {Q : Value → Shared → Prop} (hh : A.handled = none) (hl : s.heap.IsList l its) (hi : StrsAre its.toList xs) (hb : xs.length + 1 < scanBound)
    (h : ∀ (h' : Heap) (tk : Nat) (D : Froz.SD), h'.get? s.heap.objs.size = some (Froz.sObj "set" D) → TxS P w D (dd xs xs.length) → (∀ b o, s.heap.get? b = some o → h'.get? b = some o) → Q (.ref s.heap.objs.size) { s with heap := h', toks := tk }) :
    wpAny (model P w) A (call (.type "set") [.ref l]) Q E s := by
  have en : its.size = xs.length := by
    have := StrsAre.len_eq hi
    rwa [Array.length_toList] at this
  obtain ⟨c, tl, hmro⟩ := F.called_set.mro
  have t1 := F.called_set.made
  have t2 := F.called_set.sub
  have t3 := F.called_set.notType
  have t4 := F.called_set.canCreate
  have t5 := F.typeCall_set_1 (.ref l)
  refine wpAny_call (codeAny_of_tree (by
    show wpAny _ _ (callAny (.type "set") _) _ _ _
    exact wpAny_pure ⟨Code.quiet_builtin _ (by decide +kernel), codeAny_builtin F.entry_type_call (by
      rw [Around.under_plain (weight_type_call_type "set" [.ref l] []) rfl]
      repeat (any_goals (first | assumption | wp_step))
      refine codeAny_mono (code_set_led1 (.ref l) (E := E) (Q₁ := fun v s₁ => v = .ref s.heap.objs.size ∧ s₁ = { s with heap := s.heap.push (setOb w) }) ⟨rfl, rfl⟩) fun r s₁ hr => ?_
      rcases r with e | fl
      · exact hr
      cases fl with
      | ret v =>
        obtain ⟨rfl, rfl⟩ := hr
        have gS : (s.heap.push (setOb w)).get? s.heap.objs.size = some (setOb w) := Heap.get?_push_size _ rfl
        have tS : Shared.TypeIs { s with heap := s.heap.push (setOb w) } (.ref s.heap.objs.size) "set" := ⟨_, gS, rfl⟩
        have t6 := F.called_set.init.lookup
        have t7 := F.called_set.init.bind (.ref s.heap.objs.size)
        repeat (any_goals (first | assumption | wp_step))
        refine codeAny_mono (codeAny_call_builtin (R := wants (fun r s₂ => r = .none ∧ ∃ h' tk D, s₂ = { s with heap := h', toks := tk } ∧ h'.get? s.heap.objs.size = some (Froz.sObj "set" D) ∧ TxS P w D (dd xs xs.length) ∧ ∀ b o, s.heap.get? b = some o → h'.get? b = some o) E) F.called_set.init.plain F.entry_set_init (check_set_init_1 tS ?_)) fun r₂ s₂ hr₂ => ?_
        · obtain ⟨⟨oc, od, odt, osl⟩, go, hc, nl, hd⟩ := hl
          simp only at hc hd
          subst hc; subst hd
          have go' : (s.heap.push (setOb w)).get? l = some { cls := .type "list", dict := od, data := .seq its nl, slots := osl } := Heap.get?_push_of_some _ go
          have u1 := F.sub_list_set
          have u2 := F.sub_list_frozenset
          have u3 : (Value.type "list" == Value.type "dict") = false := by decide
          have il : (s.heap.push (setOb w)).IsList l its := ⟨_, go', rfl, nl, rfl⟩
          unfold Builtin.«set.__init__» noKeywords Builtin.Frozenset.updateFrom
          generalize hPI : pyIter = PI
          wp_walk
          subst hPI
          refine wpAny_pyIter_list il (wpAny_bind (wpAny_runValue ?_))
          have ll : l < s.heap.objs.size := Heap.lt_size go
          have n1 : s.heap.objs.size ≠ (s.heap.push (setOb w)).objs.size := by rw [Heap.size_push]; exact Nat.ne_of_lt (Nat.lt_succ_self _)
          have n2 : l ≠ (s.heap.push (setOb w)).objs.size := by rw [Heap.size_push]; exact Nat.ne_of_lt (Nat.lt_succ_of_lt ll)
          have nS : s.heap.objs.size ∉ [(s.heap.push (setOb w)).objs.size, l] := fun hm => by
            rcases List.mem_cons.mp hm with z | z
            · exact n1 z
            · exact Nat.ne_of_lt ll (List.mem_singleton.mp z).symm
          have hv : ∀ (i : Nat) (v : Value), its[i]? = some v → ∃ k t, xs[i]? = some k ∧ v = .str k t := fun i v e => by
            exact txs_at hi i v (by rw [Array.getElem?_toList]; exact e)
          refine tx_loop (P := P) (w := w) (s := { s with heap := (s.heap.push (setOb w)).push { cls := .type "list_iterator", data := .fields #[.ref l, .int 0 0] } }) ((Walks.list (A := A.in1.in1.in1) (by simp [hh]) _ l n2 its).toS) s.heap.objs.size nS xs en hb hv (fun s1 s' D hm gD T es => ?_) (its.size - 0) 0 _ rfl (Nat.zero_le _) ⟨⟨_, Heap.get?_push_size _ rfl, rfl, rfl⟩, il.push _⟩ (fun _ => rfl) (fun z => absurd rfl z) ⟨setNew w, Heap.get?_push_of_some _ gS, TxS.zero⟩
          subst es
          obtain ⟨h', g2, d', tk', os'⟩ := s'
          obtain rfl : g2 = s.gens := hm.gens
          obtain rfl : d' = s.drawn := hm.drawn
          obtain rfl : os' = s.os := hm.os
          rw [en] at T
          refine wpAny_pure ?_
          show wpAny _ _ (ret Value.none) _ _ _
          refine wpAny_pure ⟨rfl, h', tk', D, rfl, gD, T, fun b o e => ?_⟩
          have hbl : b < s.heap.objs.size := Heap.lt_size e
          refine hm.heap b o (fun hm2 => ?_) (Heap.get?_push_of_some _ (Heap.get?_push_of_some _ e))
          rcases List.mem_cons.mp hm2 with z | z
          · exact Nat.ne_of_lt hbl z
          · have z2 := List.mem_singleton.mp z
            rw [Heap.size_push] at z2
            exact Nat.ne_of_lt (Nat.lt_succ_of_lt hbl) z2
        · rcases r₂ with e | fl₂
          · exact hr₂
          cases fl₂ with
          | ret r =>
            obtain ⟨rfl, h', tk, D, rfl, gD, T, kk⟩ := hr₂
            repeat (any_goals (first | assumption | wp_step))
            exact h _ _ _ gD T kk
          | _ => exact hr₂.elim
      | _ => exact hr.elim)⟩))
theorem sorted_txs {a : Addr} {D : Froz.SD} {l : List Str} {Q : Value → Shared → Prop} (ho : s.heap.get? a = some (Froz.sObj "set" D)) (T : TxS P w D l) (h64 : l.length < 64) (hh : A.handled = none)
    (h : ∀ s' p (out : Array Value) (c : Nat) (ys : List Str), (∀ b o, s.heap.get? b = some o → s'.heap.get? b = some o) → s'.gens = s.gens → s'.os = s.os → s.heap.objs.size ≤ p → s'.heap.get? p = some (seqObj "list" out c) → StrsAre out.toList ys → ys.Perm l → sortedS ys = true → Q (.ref p) s') :
    wpAny (model P w) A (call (.builtin "sorted") [.ref a]) Q E s := by
  have sz : D.1.size = l.length := T.ok.sz
  refine Calls.call_function_entry kind_sorted plain_sorted entry_sorted (args_sorted1 _) ?_
  unfold Builtin.«sorted»
  refine wpAny_bind (m := checkCount "sorted" 1 1 _) (wpAny_pure (wpAny_bind (collect_set (A := A.in1) hh ⟨_, ho, rfl, rfl⟩ T.ok.fit (by unfold scanBound; omega) T.ris T.led fun s1 vs k1 hz g1 o1 pm => ?_)))
  have lv : vs.length < 64 := by rw [pm.length_eq, List.length_map, Array.length_toList]; omega
  have sv : StrsAre vs (vs.map strOf) := strsAre_of fun v hv => T.strs v (pm.mem_iff.mp hv)
  have pv : (vs.map strOf).Perm l := by
    have p1 := pm.map strOf
    rw [List.map_map] at p1
    exact p1.trans T.pm
  refine wpAny_bind (wpAny_newList ?_ (by rw [sizeLine_eq]; omega))
  have hL : (s1.heap.push (seqObj "list" vs.toArray 0)).get? s1.heap.objs.size = some (seqObj "list" vs.toArray 0) := Heap.get?_push_size _ rfl
  refine wpAny_bind (wpAny_holding (wpAny_call_entry slot_list_sort ⟨_, hL, rfl⟩ entry_list_sort (list_sort_treeK strKind_oneLt (s := { s1 with heap := s1.heap.push (seqObj "list" vs.toArray 0) }) hL sv.keysOf (fun v₁ v₂ r e => keyKind_strs (by rw [← e]; exact sv)) lv fun st' hp hs => ⟨_, rfl, ?_⟩) (args_list_sort _)))
  obtain ⟨ys, g2, g3, g4⟩ := sorted_out_str sv hp hs
  obtain ⟨c, hc⟩ := sortedHeap_at (vs := vs) (out := (arrOf st').map (·.2)) hL
  refine wpAny_pure ⟨_, rfl, h _ s1.heap.objs.size _ c ys (fun b u e => ?_) g1 o1 hz hc g2 (g3.trans pv) g4⟩
  have q := k1 b u e
  have lb := Heap.lt_size q
  show (sortedHeap _ s1.heap.objs.size vs _).get? b = some u
  rw [sortedHeap_old (Nat.ne_of_lt lb) (by rw [size_push']; exact Nat.lt_succ_of_lt lb)]
  exact Heap.get?_push_of_some _ q
end
/-! ### the rules -/
def StrO (P : Program) (w : World) (a : Addr) (l : List Str) : HO := .ext fun h => ∃ D, h.get? a = some (Froz.sObj "set" D) ∧ TxS P w D l
theorem strO_new {P : Program} {w : World} {H : Hp} {h : Heap} {a : Addr} {l : List Str} {D : Froz.SD} (g : h.get? a = some (Froz.sObj "set" D)) (T : TxS P w D l) : ObjOk P w H h a (StrO P w a l) :=
  ⟨⟨D, g, T⟩, ⟨_, g⟩, fun h1 h2 ⟨D', g', T'⟩ k => ⟨D', k _ g', T'⟩⟩
section
variable {X : Cx}
def rSetTx (K : PySem.W.Frag) (P : Program) (w : World) : List V → Hp → VK → Prop := fun xs H Q => ∃ (l : Addr) (zs : List Str), xs = [.ref l] ∧ SqL K H l (zs.map V.str) ∧ zs.length + 1 < scanBound ∧ ∀ a, H a = none → Q (.ref a) (upd H a (StrO P w a (dd zs zs.length)))
theorem cr_setTx (hc : X.calm = true) : CallR X (.type "set") (rSetTx X.K X.prog X.w) := by
  intro pins s σ H xs us Q I r h
  obtain ⟨l, zs, rfl, hl, hb, q⟩ := h
  rw [Vals.ref1 r]
  obtain ⟨its, rv, pl, hz⟩ := I.list hl
  refine call_set_txs (P := X.prog) (w := X.w) zs (I.ok.hd hc) pl.isList (by simpa using rv.strs) hb fun h' tk D g T k => ?_
  exact ⟨.ref s.heap.objs.size, _, I.laid (t' := tk) k (Nat.le_refl _) (strO_new g T), rfl, q _ (I.hok.fresh (Nat.le_refl _))⟩
def rSortTx (P : Program) (w : World) : List V → Hp → VK → Prop := fun xs H Q => ∃ (a : Addr) (l : List Str), xs = [.ref a] ∧ H a = some (StrO P w a l) ∧ l.length < 64 ∧ ∀ (ys : List Str) (p : Addr), ys.Perm l → sortedS ys = true → H p = none → Q (.ref p) (upd H p (.lst (ys.map V.str)))
theorem cr_sortTx (hc : X.calm = true) : CallR X (.builtin "sorted") (rSortTx X.prog X.w) := by
  intro pins s σ H xs us Q I r h
  obtain ⟨a, l, rfl, ha, h64, q⟩ := h
  obtain ⟨D, g, T⟩ := (I.hok a _ ha).1
  rw [Vals.ref1 r]
  refine sorted_txs g T h64 (I.ok.hd hc) fun s' p out c ys k gg oo hp hg hs pm so => ?_
  have lz : (ys.map V.str).length ≤ sizeLine := by rw [List.length_map, pm.length_eq, sizeLine_eq]; omega
  have hn : H p = none := I.hok.fresh hp
  have J : Inv X pins σ (upd H p (.lst (ys.map V.str))) { s with heap := s'.heap, gens := s'.gens, drawn := s'.drawn, toks := s'.toks } :=
    I.call (ch := []) (Un.laid k hp hn) (I.hok.laid k hp ⟨lz, out.toList, c, vals_of_strs hs, hg⟩) (by rw [gg]; exact I.bare) (fun _ z => nomatch z)
  obtain ⟨h1, h2, h3, h4, h5⟩ := s'
  obtain rfl : h5 = s.os := oo
  exact ⟨.ref p, _, J, rfl, q ys p pm so hn⟩
end
end Sl
/-! ## StC -/
set_option Elab.async false
set_option linter.all false
set_option maxRecDepth 100000
set_option maxHeartbeats 8000000
set_option pp.deepTerms false
set_option pp.deepTerms.threshold 3
set_option pp.maxSteps 500
namespace Sl
open PySem PySem.Spec PyProof.Rows L2
theorem paired_unmap {α β γ : Type} {R : α → γ → Prop} {f : β → γ} : ∀ {xs : List α} {ys : List β}, Paired R xs (ys.map f) → Paired (fun x y => R x (f y)) xs ys
  | _, [], h => by
    cases h
    exact .nil
  | _, y :: r, h => by
    cases h with
    | cons h t => exact .cons h (paired_unmap t)
theorem kit_self (K : PySem.W.Frag) (C : Addr) : PySem.W.kitOne K (.ref C) (.ref C) = some true := by
  unfold PySem.W.kitOne
  rw [beq_self_eq_true, if_pos rfl]
end Sl
namespace Lw
open PySem PySem.Spec PyProof.Rows L2 Sl
section
variable {P : Program} {w : World} {K : PySem.W.Frag} {mg : Str → Option Value} {base : Heap} {f : Addr} {fd : FuncData} {C : Addr}
theorem if1_of {c : TT} {t u : TS} {D : Ends} {σ : L2.St} {H : Hp} (h : c σ H fun b H1 => if b = true then t D σ H1 else u D σ H1) : tIfS c t u D σ H := h
structure okB (B : NI) : Prop where
  nd : (ks B).Nodup
  nm : ∀ b ∈ B, nameB b.1 = true
  vl : ∀ b ∈ B, 1 ≤ b.2 ∧ b.2 ≤ 9
  ln : B.length ≤ 60
def sp_cbrings (K : PySem.W.Frag) : Sp := fun vs H Q _ => ∃ (a : Addr) (B : NI), vs = [.ref a] ∧ PArg K H a (B.map kvi) ∧ okB B ∧ ∀ (d : Addr) (B' : NI) (H' : Hp), H d = none → Same H H' → H' d = some (dI B') → (ks B').Pairwise leS → B'.Perm B → Q (.ref d) H'
abbrev cbN : List Str := ["told", "pairs", "kind", "number"]
theorem ok_cbrings (F : FnP K "checked_brings" s_checked_brings [] f fd) (Pr : Cal P w K mg base 2 "pairs_of" [] (sp_pairs K)) (N : Cal P w K mg base 1 "is_name" [] (sp_isname K)) (I : Cal P w K mg base 2 "is_brought" [] sp_isbrought) (mS : mg "sorted" = none) :
    FnOk P w K mg base CX0 3 f fd ["told"] (sp_cbrings K) := by
  refine F.ok sc_checked_brings (fun vs H Q E h => ?_) (fun cdv A outer s H vs Q E hr h => ?_)
  · obtain ⟨a, B, rfl, _⟩ := h
    rfl
  · obtain ⟨a, B, rfl, ha, oB, k⟩ := h
    have nd := sc_checked_brings.nd
    have hr1 := hr.mono (show 1 ≤ 2 by decide)
    refine ⟨_, PSs.nox (pss_cons (ps_set (i := 1) nd rfl (.inl rfl) (pe_cal Pr hr (pa_cons (pv 0) pa_nil)))
      (pss_cons (ps_for PassesOwn.never rfl (pi_list (pv 1)) (pg_tup rfl (pgs_cons (pg_name (i := 2) nd rfl (Or.inl rfl)) (pgs_cons (pg_name (i := 3) nd rfl (Or.inl rfl)) pgs_nil)))
        (pss_one (ps_if (PW.pt (pw_or (pt_not (pt_val (pe_cal N hr1 (pa_cons (pv 2) pa_nil)))) (pw_or1 (pt_not (pt_val (pe_cal I hr (pa_cons (pv 3) pa_nil))))))) (pss_one ps_never) pss_nil)))
      (pss_one (ps_ret (pe_dc (own := [("kind", 2), ("number", 3)]) (g := gTup K 2 (gCons (gName 2) (gCons (gName 3) gNil))) (tt := tYes) rfl nd (pi_list (pe_callB (r := rSortedSP K) (cr_sortedSP) (by rfl) mS (by decide +kernel) (pa_cons (pv 1) pa_nil))) (blkOk_by (N := cbN) (sc := defScope s_checked_brings) (by decide +kernel))
        (fun _ _ _ _ _ => pg_two (i := 2) (j := 3) rfl nd rfl rfl (Or.inl rfl) (Or.inl rfl)) (fun _ _ _ _ _ => pts_nil) (fun _ _ _ _ _ => pv 2) (fun _ _ _ _ _ => pv 3)))))), ?_⟩
    show tSeq (tAsg _ (gName 1)) _ _ [some (V.ref a), none, none, none] H
    refine asg_of ⟨_, rfl, a, B.map kvi, rfl, ha, fun l ts H1 hl1 s1 hls hP0 => ?_⟩
    have hP : Paired (fun (t : Addr) (u : Str × Int) => H1 t = some (.tup [.str u.1, .int u.2])) ts B := paired_unmap (R := fun (t : Addr) (q : Key × V) => H1 t = some (.tup [kV q.1, q.2])) hP0
    show tSeq (tFor (iList K (tVar 1)) _ _) _ _ [some (V.ref a), some (V.ref l), none, none] H1
    refine ⟨_, rfl, l, rfl, ⟨_, SqL.of hls⟩, ?_⟩
    refine for_list (K := K) (a := l) (xs := ts.map V.ref) (fun i σ H' => Same H1 H' ∧ ∃ y z, σ = [some (V.ref a), some (V.ref l), y, z]) ⟨fun _ _ e => e, none, none, rfl⟩ (fun i σ H' _ ⟨s2, _⟩ => SqL.of (s2 _ _ hls)) ?_ ?_
    · rintro i x σ H' hx ⟨s2, y, z, rfl⟩
      rw [List.getElem?_map] at hx
      obtain ⟨t, et, ex⟩ := Option.map_eq_some_iff.mp hx
      subst ex
      obtain ⟨u, hu, ht⟩ := paired_at hP et
      have huB := List.mem_of_getElem? hu
      have hnm := oB.nm u huB
      obtain ⟨v1, v9⟩ := oB.vl u huB
      refine ⟨t, _, rfl, SqT.of (s2 _ _ ht), rfl, _, _, rfl, _, _, rfl, rfl, ?_⟩
      refine or_of ⟨_, rfl, _, rfl, .inl ⟨u.1, rfl, (by have := nameB_len hnm; omega), fun H3 s3 => ⟨_, rfl, ?_⟩⟩⟩
      rw [hnm]
      exact iteF ⟨_, rfl, u.2, rfl, v1, v9, true, rfl, iteF ⟨s2.trans s3, _, _, rfl⟩⟩
    · rintro σ H2 ⟨s2, y, z, rfl⟩
      have hls2 := s2 _ _ hls
      have hP2 : Paired (fun (t : Addr) (u : Str × Int) => H2 t = some (.tup [.str u.1, V.int u.2])) ts B := paired_same (fun _ _ r => s2 _ _ r) hP
      refine ⟨_, rfl, ?_⟩
      dsimp only [tNil]
      refine sorted_pairs (nm := fun u : Str × Int => u.1) (vl := fun u => V.int u.2) (SqL.of hls2) hP2 oB.nd fun ts' B1 p hP3 pm so hp => ?_
      refine ⟨p, rfl, ⟨_, SqL.of upd_same⟩, fun D hD => ?_⟩
      have s3 := s2.trans (same_new (o := .lst (ts'.map V.ref)) hp)
      have ep : (upd H2 p (.lst (ts'.map V.ref))) p = some (.lst (ts'.map V.ref)) := upd_same
      have hP4 : Paired (fun (t : Addr) (u : Str × Int) => (upd H2 p (.lst (ts'.map V.ref))) t = some (.tup [.str u.1, V.int u.2])) ts' B1 := paired_same (fun _ _ r => same_new hp _ _ r) hP3
      generalize upd H2 p (.lst (ts'.map V.ref)) = H3 at s3 ep hP4 hD
      have lts : ts'.length = B1.length := hP4.length
      have lB1 : B1.length = B.length := pm.length_eq
      have nB1 : (ks B1).Nodup := (pm.map _).nodup_iff.mpr oB.nd
      refine dc_it (walk_list (xs := ts'.map V.ref)) (fun i H' => Same H3 H' ∧ H' D = some (dI (B1.take i))) ⟨same_new hD, upd_same⟩ (fun i H' _ ⟨s4, _⟩ => SqL.of (s4 _ _ ep)) ?_ ?_
      · rintro i x Ha Hb hi ⟨s4, hdD⟩ ⟨e, hx⟩
        subst e
        rw [List.getElem?_map] at hx
        obtain ⟨t, et, ex⟩ := Option.map_eq_some_iff.mp hx
        subst ex
        obtain ⟨u, hu, ht⟩ := paired_at hP4 et
        refine ⟨t, _, rfl, SqT.of (s4 _ _ ht), rfl, _, _, rfl, _, _, rfl, rfl, rfl, yes_of (iteT ⟨_, rfl, _, rfl, _, .inr u.1, rfl, hdD, ?_, ?_, ?_⟩)⟩
        · rw [List.length_map, List.length_take, sizeLine_eq]
          have := oB.ln
          omega
        · intro c o e
          rw [upd_ne (ne_of_none e hD)]
          exact s4 _ _ e
        · rw [upd_same, putK_new _ _ _ (take_fresh nB1 hu), List.take_succ, hu]
          rfl
      · rintro H4 ⟨s4, hdD⟩
        rw [List.length_map, lts, List.take_length] at hdD
        exact k D B1 H4 (free_same (s1.trans s3) hD) (s1.trans (s3.trans s4)) hdD so pm
/-! ### statements -/
structure StmC (K : PySem.W.Frag) (C : Addr) : Prop where
  cl : Cls K C
  nT : NoAttr K C "_turns"
  nB : NoAttr K C "_brings"
  ca : PySem.W.findIn K (.ref C) "__class__" = some (some (.builtin "object.__class__"))
  sg : PySem.W.specialIn K (.builtin "object.__class__") "__get__" = some (some (.builtin "getset_descriptor.__get__"))
  tk : PySem.W.takesIn K (.builtin "object.__class__") = some true
  ob : PySem.W.mroIn K C (.type "object") = some true
def StmX (H : Hp) (C t : Addr) (T : TT') (B : NI) (dx d e : Addr) : Prop := H t = some (.ins C dx [("_turns", .ref d), ("_brings", .ref e)]) ∧ TupsAt H d T ∧ H e = some (dI B)
/-- the content of a statement -/
structure SOk (S : CT) (B : NI) : Prop where
  cs : Cg S
  cb : Cg (α := Int) B
  ns : ∀ p ∈ S, nameB p.1 = true ∧ p.2.length ≤ 3 ∧ ∀ z ∈ p.2, nameB z = true
  nb : ∀ b ∈ B, nameB b.1 = true ∧ 1 ≤ b.2 ∧ b.2 ≤ 9
  ls : S.length ≤ 8
  lb : B.length ≤ 8
def StmAt (H : Hp) (C t : Addr) (S : CT) (B : NI) : Prop := ∃ dx d e T, StmX H C t T B dx d e ∧ ct T = S ∧ SOk S B ∧ d ≠ e
/-- .., its dicts new since H0 -/
def StmFr (H0 H : Hp) (C t : Addr) (S : CT) (B : NI) : Prop := ∃ dx d e T, StmX H C t T B dx d e ∧ ct T = S ∧ SOk S B ∧ d ≠ e ∧ H0 d = none ∧ H0 e = none
theorem StmFr.at_ {H0 H : Hp} {C t : Addr} {S : CT} {B : NI} (h : StmFr H0 H C t S B) : StmAt H C t S B := let ⟨dx, d, e, T, x, r1, r2, r3, _⟩ := h; ⟨dx, d, e, T, x, r1, r2, r3⟩
theorem StmFr.old {H0 H1 H : Hp} {C t : Addr} {S : CT} {B : NI} (h : StmFr H1 H C t S B) (k : ∀ c, H1 c = none → H0 c = none) : StmFr H0 H C t S B := let ⟨dx, d, e, T, x, r1, r2, r3, r4, r5⟩ := h; ⟨dx, d, e, T, x, r1, r2, r3, k _ r4, k _ r5⟩
theorem StmFr.imp {H0 H H' : Hp} {C t : Addr} {S : CT} {B : NI} (h : StmFr H0 H C t S B) (k : ∀ c o, H c = some o → ((∃ dx fs, o = .ins C dx fs) ∨ (∃ xs, o = .tup xs) ∨ H0 c = none ∧ ∃ kvs, o = .dK kvs) → H' c = some o) : StmFr H0 H' C t S B := by
  obtain ⟨dx, d, e, T, ⟨x1, x2, x3⟩, r1, r2, r3, r4, r5⟩ := h
  exact ⟨dx, d, e, T, ⟨k _ _ x1 (.inl ⟨_, _, rfl⟩), ⟨k _ _ x2.1 (.inr (.inr ⟨r4, _, rfl⟩)), fun u hu => ⟨k _ _ (x2.2 u hu).1 (.inr (.inl ⟨_, rfl⟩)), (x2.2 u hu).2⟩⟩, k _ _ x3 (.inr (.inr ⟨r5, _, rfl⟩))⟩, r1, r2, r3, r4, r5⟩
theorem StmX.same {H H' : Hp} {C t : Addr} {T : TT'} {B : NI} {dx d e : Addr} (h : StmX H C t T B dx d e) (k : Same H H') : StmX H' C t T B dx d e := ⟨k _ _ h.1, h.2.1.same k, k _ _ h.2.2⟩
theorem StmAt.same {H H' : Hp} {C t : Addr} {S : CT} {B : NI} (h : StmAt H C t S B) (k : Same H H') : StmAt H' C t S B := let ⟨dx, d, e, T, x, r⟩ := h; ⟨dx, d, e, T, x.same k, r⟩
theorem TAt.imp {H H' : Hp} {T : TT'} (h : TAt H T) (k : ∀ (b : Addr) (xs : List V), LT H b xs → LT H' b xs) : TAt H' T := fun t ht => ⟨k _ _ (h t ht).1, (h t ht).2⟩
def sp_sinit (K : PySem.W.Frag) (C : Addr) : Sp := fun vs H Q _ => ∃ (t dx a b : Addr) (T : TT') (B : NI), vs = [.ref t, .ref a, .ref b] ∧ H t = some (.ins C dx []) ∧ PArg K H a (T.map tkv) ∧ TAt H T ∧ okT T ∧ PArg K H b (B.map kvi) ∧ okB B ∧ T.length ≤ 8 ∧ B.length ≤ 8 ∧
  ∀ (H' : Hp) (S' : CT) (B' : NI), Keep t H H' → StmFr H H' C t S' B' → S'.Perm (ct T) → B'.Perm B → Q .non H'
theorem sok_of {T T' : TT'} {B B' : NI} {H : Hp} (oT : okT T) (hT : TAt H T) (oB : okB B) (kT : TKeep T' T) (kB : (ks B').Pairwise leS) (pB : B'.Perm B) (lT : T.length ≤ 8) (lB : B.length ≤ 8) : SOk (ct T') B' := by
  have nT : (kg (ct T')).Nodup := (kg_perm kT.pm).nodup_iff.mpr (by rw [kg_ct]; exact oT.nd)
  refine ⟨⟨by rw [kg_ct]; exact kT.so, nT⟩, ⟨kB, (pB.map _).nodup_iff.mpr oB.nd⟩, fun p hp => ?_, fun b hb => ⟨oB.nm b (pB.mem_iff.mp hb), oB.vl b (pB.mem_iff.mp hb)⟩, ?_, by rw [pB.length_eq]; exact lB⟩
  · obtain ⟨t, ht, rfl⟩ := List.mem_map.mp (kT.pm.mem_iff.mp hp)
    exact ⟨oT.nm t ht, (hT t ht).2⟩
  · rw [kT.pm.length_eq]
    show (List.map _ _).length ≤ 8
    rw [List.length_map]
    exact lT
theorem ok_sinit {dvs : List V} (F : FunD K "__init__" "Statement.__init__" (defArgs s_Statement___init__) (defBody s_Statement___init__) (defScope s_Statement___init__) dvs [] f fd) (G : StmC K C) (Ct : Cal P w K mg base 3 "checked_turns" [] (sp_cturns K)) (Cb : Cal P w K mg base 3 "checked_brings" [] (sp_cbrings K)) :
    FnOk P w K mg base CX0 4 f fd ["self", "turns", "brings"] (sp_sinit K C) := by
  refine F.ok sc_Statement___init__ (fun vs H Q E h => ?_) (fun cdv A outer s H vs Q E hr h => ?_)
  · obtain ⟨t, dx, a, b, T, B, rfl, _⟩ := h
    rfl
  · obtain ⟨t, dx, a, b, T, B, rfl, ht, ha, hT, oT, hb, oB, lT, lB, k⟩ := h
    refine ⟨_, PSs.nox (pss_cons (ps_fld (pv 0) (pe_cal Ct hr (pa_cons (pv 1) pa_nil)) rfl) (pss_one (ps_fld (pv 0) (pe_cal Cb hr (pa_cons (pv 2) pa_nil)) rfl))), ?_⟩
    refine ⟨_, rfl, a, T, rfl, ha, hT, oT, fun d T' H1 hd s1 e1 kT => ?_⟩
    refine ⟨_, rfl, t, C, dx, [], rfl, s1 _ _ ht, G.cl, G.nT, by decide, ?_⟩
    have ht1 := s1 _ _ ht
    have nt : d ≠ t := fun e => by rw [e, ht] at hd; cases hd
    have k1 : Keep t H (upd H1 t (.ins C dx (putF "_turns" (V.ref d) []))) := fun c o n e => by rw [upd_ne n]; exact s1 _ _ e
    have eT : (upd H1 t (.ins C dx (putF "_turns" (V.ref d) []))) t = some (.ins C dx [("_turns", .ref d)]) := upd_same
    have dT : TupsAt (upd H1 t (.ins C dx (putF "_turns" (V.ref d) []))) d T' := ⟨by rw [upd_ne nt]; exact e1.1, fun u hu => ⟨by
      have := (e1.2 u hu).1
      rw [upd_ne (fun z => by rw [z, ht1] at this; cases this)]
      exact this, (e1.2 u hu).2⟩⟩
    generalize upd H1 t (.ins C dx (putF "_turns" (V.ref d) [])) = H2 at k1 eT dT
    refine nxs_of ⟨_, rfl, b, B, rfl, hb.imp fun o ho e => k1 _ _ (fun z => ?_) e, oB, fun e B' H3 he s3 e3 kB pB => ?_⟩
    · rw [z, ht] at e
      rcases ho with h | h | h <;> rw [h] at e <;> cases e
    have nte : e ≠ t := fun z => by rw [z, eT] at he; cases he
    have nde : d ≠ e := fun z => by rw [← z, dT.1] at he; cases he
    refine ⟨_, rfl, t, C, dx, _, rfl, s3 _ _ eT, G.cl, G.nB, by show 1 < 1000; decide, ?_⟩
    have e3t := s3 _ _ eT
    refine k _ (ct T') B' (fun c o n e => ?_) ⟨dx, d, e, T', ⟨upd_same, ⟨?_, fun u hu => ⟨?_, (dT.2 u hu).2⟩⟩, ?_⟩, rfl, sok_of oT hT oB kT kB pB lT lB, nde, hd, ?_⟩ kT.pm pB
    · rw [upd_ne n]
      exact s3 _ _ (k1 _ _ n e)
    · rw [upd_ne nt]
      exact s3 _ _ dT.1
    · have := s3 _ _ (dT.2 u hu).1
      rw [upd_ne (fun z => by rw [z, e3t] at this; cases this)]
      exact this
    · rw [upd_ne nte]
      exact e3
    · cases z : H e with
      | none => rfl
      | some o => rw [k1 _ _ nte z] at he; cases he
end
end Lw
/-! ## SlTwo -/
set_option Elab.async false
set_option linter.all false
set_option maxRecDepth 100000
set_option maxHeartbeats 4000000
/-! a list comprehension over two walks; *d of a dict within a display -/
namespace Sl
open PySem PySem.Spec PyProof.Rows L2
section
variable {J : It} {n : Nat} {G : Hp → Prop} {Y : Nat → Hp → V → Hp → Prop}
theorem two_out (w : Walk J n G Y) {g g1 : TG} {tt tt1 : TT} {wi1 : TI} {te : TE} {vs vs1 : List Nat} {σ : L2.St} {H1 : Hp} {D : Addr} {Qd : Hp → Prop} (Pv : Nat → Hp → Prop) (h0 : Pv 0 (upd H1 D (.lst []))) (hG : ∀ i H, i ≤ n → Pv i H → G H)
    (hs : ∀ i x H H', i < n → Pv i H → Y i H x H' → g x (wipe σ vs) H' fun σ2 H2 => wipe σ2 vs = wipe σ vs ∧ tt σ2 H2 fun b H3 =>
      if b = true then wi1 σ2 H3 fun J1 H4 => ∃ W1 : Nat → Nat → Hp → Prop, (∃ m, W1 0 m H4) ∧ ∀ j k H, W1 j k H →
        (J1.stop j H ∧ Pv (i + 1) H) ∨ (J1.go j H ∧ ∃ Nx1 : Hp → Prop, (∀ H', Nx1 H' → ∃ k', k' < k ∧ W1 (j + 1) k' H') ∧ ∀ x H', J1.yld j H x H' → g1 x (wipe σ2 vs1) H' fun σ3 H5 => wipe σ3 vs1 = wipe σ2 vs1 ∧ tt1 σ3 H5 fun b H6 =>
          if b = true then te σ3 H6 fun y H7 => ∃ acc, H7 D = some (.lst acc) ∧ acc.length < sizeLine ∧ Nx1 (upd H7 D (.lst (acc ++ [y]))) else Nx1 H6)
      else Pv (i + 1) H3) (hd : ∀ H, Pv n H → Qd H) :
    ∃ W : Nat → Nat → Hp → Prop, (∃ m, W 0 m (upd H1 D (.lst []))) ∧ ∀ i m H, W i m H →
      (J.stop i H ∧ Qd H) ∨ (J.go i H ∧ ∃ Nx : Hp → Prop, (∀ H', Nx H' → ∃ m', m' < m ∧ W (i + 1) m' H') ∧ ∀ x H', J.yld i H x H' → g x (wipe σ vs) H' fun σ2 H2 => wipe σ2 vs = wipe σ vs ∧ tt σ2 H2 fun b H3 =>
        if b = true then wi1 σ2 H3 fun J1 H4 => ∃ W1 : Nat → Nat → Hp → Prop, (∃ m, W1 0 m H4) ∧ ∀ j k H, W1 j k H →
          (J1.stop j H ∧ Nx H) ∨ (J1.go j H ∧ ∃ Nx1 : Hp → Prop, (∀ H', Nx1 H' → ∃ k', k' < k ∧ W1 (j + 1) k' H') ∧ ∀ x H', J1.yld j H x H' → g1 x (wipe σ2 vs1) H' fun σ3 H5 => wipe σ3 vs1 = wipe σ2 vs1 ∧ tt1 σ3 H5 fun b H6 =>
            if b = true then te σ3 H6 fun y H7 => ∃ acc, H7 D = some (.lst acc) ∧ acc.length < sizeLine ∧ Nx1 (upd H7 D (.lst (acc ++ [y]))) else Nx1 H6)
        else Nx H3) := by
  refine ⟨fun i m H => m = n - i ∧ i ≤ n ∧ Pv i H, ⟨n - 0, rfl, Nat.zero_le _, h0⟩, fun i m H ⟨em, hi, p⟩ => ?_⟩
  have q := hG i H hi p
  rcases Nat.lt_or_ge i n with hlt | hge
  · exact .inr ⟨w.goes i H hlt q, Pv (i + 1), fun H' p' => ⟨n - (i + 1), by omega, rfl, hlt, p'⟩, fun x H' y => hs i x H H' hlt p (w.yields i H x H' hlt q y)⟩
  · obtain rfl : i = n := by omega
    exact .inl ⟨w.stops H q, hd H p⟩
theorem two_in (w : Walk J n G Y) {g1 : TG} {tt1 : TT} {te : TE} {vs1 : List Nat} {σ2 : L2.St} {H4 : Hp} {D : Addr} {Nx : Hp → Prop} (Pv : Nat → Hp → Prop) (h0 : Pv 0 H4) (hG : ∀ i H, i ≤ n → Pv i H → G H)
    (hs : ∀ j x H H', j < n → Pv j H → Y j H x H' → g1 x (wipe σ2 vs1) H' fun σ3 H5 => wipe σ3 vs1 = wipe σ2 vs1 ∧ tt1 σ3 H5 fun b H6 =>
      if b = true then te σ3 H6 fun y H7 => ∃ acc, H7 D = some (.lst acc) ∧ acc.length < sizeLine ∧ Pv (j + 1) (upd H7 D (.lst (acc ++ [y]))) else Pv (j + 1) H6) (hd : ∀ H, Pv n H → Nx H) :
    ∃ W1 : Nat → Nat → Hp → Prop, (∃ m, W1 0 m H4) ∧ ∀ j k H, W1 j k H →
      (J.stop j H ∧ Nx H) ∨ (J.go j H ∧ ∃ Nx1 : Hp → Prop, (∀ H', Nx1 H' → ∃ k', k' < k ∧ W1 (j + 1) k' H') ∧ ∀ x H', J.yld j H x H' → g1 x (wipe σ2 vs1) H' fun σ3 H5 => wipe σ3 vs1 = wipe σ2 vs1 ∧ tt1 σ3 H5 fun b H6 =>
        if b = true then te σ3 H6 fun y H7 => ∃ acc, H7 D = some (.lst acc) ∧ acc.length < sizeLine ∧ Nx1 (upd H7 D (.lst (acc ++ [y]))) else Nx1 H6) := by
  refine ⟨fun i m H => m = n - i ∧ i ≤ n ∧ Pv i H, ⟨n - 0, rfl, Nat.zero_le _, h0⟩, fun i m H ⟨em, hi, p⟩ => ?_⟩
  have q := hG i H hi p
  rcases Nat.lt_or_ge i n with hlt | hge
  · exact .inr ⟨w.goes i H hlt q, Pv (i + 1), fun H' p' => ⟨n - (i + 1), by omega, rfl, hlt, p'⟩, fun x H' y => hs i x H H' hlt p (w.yields i H x H' hlt q y)⟩
  · obtain rfl : i = n := by omega
    exact .inl ⟨w.stops H q, hd H p⟩
end
/-! ### *d -/
def tStarD (te : TE) (t : TA) : TA := fun σ H Q => te σ H fun x H1 => ∃ (p : Addr) (kvs : List (Key × V)), x = .ref p ∧ Rd H1 p (.dK kvs) ∧ t σ H1 fun ys H2 => Q ((kvs.map fun kv => kV kv.1) ++ ys) H2
section
variable {X : Cx} {e : Expr} {es : List Expr} {te : TE} {t : TA} {p : Pos}
theorem star_dic {pins : List (Addr × Obj)} {σ : L2.St} {H : Hp} {s : Shared} {a : Addr} {kvs : List (Key × V)} {E : Value → Shared → Prop} {Q : List Value → Shared → Prop} (hc : X.calm = true) (I : Inv X pins σ H s) (h : Rd H a (.dK kvs)) (hQ : ∀ us s', Inv X pins σ H s' → Vals (kvs.map fun kv => kV kv.1) us → Q us s') : PySem.W.StarOf (model X.prog X.w) X.A E (.ref a) Q s := by
  obtain ⟨z, lo, vs, rel, dd⟩ := dk_rd I.hok h
  obtain ⟨ep, hat⟩ := dd.dictAt
  have ek : (kvs.map fun kv => kV kv.1) = vs.map fun p => kV p.1 := by
    have e := congrArg (List.map kV) rel.keys
    rwa [List.map_map, List.map_map] at e
  have ty : s.TypeIs (.ref a) "dict" := dd.typeIs
  unfold PySem.W.StarOf notIterableAtAll
  refine wpAny_bind (wpAny_specialOf ty PySem.F.slot_dict_iter.lookup (wpAny_pure ⟨rfl, ?_⟩))
  refine PySem.W.kdu_collect (PySem.W.kdl_dict (knd := mixKind X.prog X.w) (kvs := vs) (ep := ep) lo) (I.ok.hd hc) hat (by rw [← rel.length]; exact z) fun h' tk acc hk hacc => ?_
  refine hQ _ _ (I.kept (t' := tk) hk) ?_
  rw [ek]
  exact keys_at (by rw [Array.length_toList]; exact hacc.1) fun j v e => hacc.2 j v (by rw [← Array.getElem?_toList]; exact e)
theorem pa_starD (hc : X.calm = true) (he : PE X e te) (hr : PA X es t) (hs : starEach (.Starred e p :: es) X.env = (true, eval e X.env) :: starEach es X.env := by rfl) : PA X (.Starred e p :: es) (tStarD te t) := by
  refine ⟨fun pos pins s σ H Q I h => PySem.W.items_star (thn (he.run pins s σ H _ I h) fun v s1 ⟨y, H1, I1, ry, a, kvs, ey, hx, q⟩ => ?_) hs⟩
  subst ey
  obtain rfl : v = Value.ref a := ry
  exact star_dic hc I1 hx fun us s2 I2 rv => thn (hr.run pos pins s2 σ H1 _ I2 q) fun ws s3 ⟨vs, H3, I3, r3, q3⟩ => ⟨_, H3, I3, rv.append r3, q3⟩
end
end Sl
/-! ## StD -/
set_option Elab.async false
set_option linter.all false
set_option maxRecDepth 100000
set_option maxHeartbeats 8000000
set_option pp.deepTerms false
set_option pp.deepTerms.threshold 3
set_option pp.maxSteps 500
namespace Sl
open PySem PySem.Spec PyProof.Rows L2 Lw
theorem keys_tur (T : TT') : ((T.map tkv).map fun kv => kV kv.1) = (kg (ct T)).map V.str := by
  rw [kg_ct, List.map_map, List.map_map]
  rfl
theorem keysV_kvi (B : NI) : ((B.map kvi).map fun kv => kV kv.1) = (ks B).map V.str := by
  unfold ks
  rw [List.map_map, List.map_map]
  rfl
/-- the kinds that turns write, one behind another -/
def flatT (S : CT) : List Str := S.flatMap fun p => p.2
theorem flatT_ct (T : TT') : flatT (ct T) = T.flatMap fun t => t.2.2 := by
  unfold flatT ct
  rw [List.flatMap_map]
theorem flatT_len {S : CT} (h : ∀ p ∈ S, p.2.length ≤ 3) : (flatT S).length ≤ 3 * S.length := by
  induction S with
  | nil => exact Nat.zero_le _
  | cons p r ih =>
    have h1 := ih fun q hq => h q (List.mem_cons_of_mem _ hq)
    have h2 := h p List.mem_cons_self
    unfold flatT at h1 ⊢
    rw [List.flatMap_cons, List.length_append, List.length_cons]
    omega
end Sl
namespace Lw
open PySem PySem.Spec PyProof.Rows L2 Sl
section
variable {P : Program} {w : World} {K : PySem.W.Frag} {mg : Str → Option Value} {base : Heap} {f : Addr} {fd : FuncData} {C : Addr}
theorem room128 {k : Nat} {A : Around} (r : Room k A) : A.units + 128 < cLine := by have := r.un; omega
theorem room192 {k : Nat} {A : Around} (r : Room k A) : A.units + 192 < cLine := by have := r.un; omega
def sp_seq (K : PySem.W.Frag) (C : Addr) : Sp := fun vs H Q _ => ∃ (t : Addr) (v : V) (S : CT) (B : NI), vs = [.ref t, v] ∧ StmAt H C t S B ∧
  ((∃ (u : Addr) (S2 : CT) (B2 : NI), v = .ref u ∧ StmAt H C u S2 B2 ∧ Q (.bl (eqG S S2 && eqI B B2)) H) ∨ (∃ ty, TyX K H v ty ∧ PySem.W.kitOne K ty (.ref C) = some false ∧ Q (.bl false) H))
theorem ok_seq (F : FunD K "__eq__" "Statement.__eq__" (defArgs s_Statement___eq__) (defBody s_Statement___eq__) (defScope s_Statement___eq__) [] [] f fd) (G : StmC K C) (mI : mg "isinstance" = none) (gT : mg "Statement" = some (.ref C)) : FnOk P w K mg base CX0 1 f fd ["self", "other"] (sp_seq K C) := by
  refine F.ok sc_Statement___eq__ (fun vs H Q E h => ?_) (fun cdv A outer s H vs Q E hr h => ?_)
  · obtain ⟨t, v, S, B, rfl, _⟩ := h
    rfl
  · obtain ⟨t, v, S, B, rfl, ⟨dx, d, e, T, ⟨ht, h1, h2⟩, rfl, oS, _⟩, h⟩ := h
    have hu := hr.units0
    have hu2 := room128 hr
    refine ⟨_, PSs.nox (pss_one (ps_ret (pe_and (pe_callB call_isi (by rfl) mI PyProof.Rows.Boot.«isinstance» (pa_cons (pv 1) (pa_cons (pe_glob (v := .ref C) (by rfl) gT rfl) pa_nil)))
      (pe_and (pe_cmpR (op_eqTur hu2) (pe_fld (pv 0) rfl) (pe_fld (pv 1) rfl) (nomark _)) (pe_one (pe_cmpR (op_eqDic hu) (pe_fld (pv 0) rfl) (pe_fld (pv 1) rfl) (nomark _))))))), ?_⟩
    rcases h with ⟨u, S2, B2, rfl, ⟨dy, d2, e2, T2, ⟨hu', g1, g2⟩, rfl, _, _⟩, k⟩ | ⟨ty, h3, h4, k⟩
    · refine ⟨_, rfl, _, .ref C, .ref C, .ref C, true, rfl, .own C, .base (.ins hu' G.cl G.ca G.sg G.tk G.ob), kit_self K C, _, rfl, iteT ?_⟩
      refine ⟨_, rfl, t, C, dx, _, .ref d, rfl, ht, G.cl, G.nT, rfl, _, rfl, u, C, dy, _, .ref d2, rfl, hu', G.cl, G.nT, rfl, d, d2, _, _, rfl, rfl, h1, g1, ?_⟩
      refine ⟨_, rfl, ite_of (fun c => ?_) (fun c => ?_)⟩
      · refine ⟨_, rfl, t, C, dx, _, .ref e, rfl, ht, G.cl, G.nB, rfl, _, rfl, u, C, dy, _, .ref e2, rfl, hu', G.cl, G.nB, rfl, e, e2, _, _, rfl, rfl, .inl h2, .inl g2, flat_dI B, flat_dI B2, ?_⟩
        have c' : eqG (ct T) (ct T2) = true := c
        rw [c', Bool.true_and] at k
        exact k
      · have c' : eqG (ct T) (ct T2) = false := c
        rw [c', Bool.false_and] at k
        exact k
    · exact ⟨_, rfl, _, .ref C, ty, .ref C, false, rfl, .own C, h3, h4, _, rfl, iteF k⟩
def sp_sturns (C : Addr) : Sp := fun vs H Q _ => ∃ (t : Addr) (S : CT) (B : NI), vs = [.ref t] ∧ StmAt H C t S B ∧ ∀ (d : Addr) (T : TT') (H' : Hp), H d = none → Same H H' → TupsAt H' d T → ct T = S → Q (.ref d) H'
theorem ok_sturns (F : FunD K "turns" "Statement.turns" (defArgs s_Statement_turns) (defBody s_Statement_turns) (defScope s_Statement_turns) [] [] f fd) (G : StmC K C) (mD : mg "dict" = none) : FnOk P w K mg base CX0 1 f fd ["self"] (sp_sturns C) := by
  refine F.ok sc_Statement_turns (fun vs H Q E h => ?_) (fun cdv A outer s H vs Q E hr h => ?_)
  · obtain ⟨t, S, B, rfl, _⟩ := h
    rfl
  · obtain ⟨t, S, B, rfl, ⟨dx, d, e, T, ⟨ht, h1, h2⟩, rfl, oS, _⟩, k⟩ := h
    refine ⟨_, PSs.nox (pss_one (ps_ret (pe_callTy call_dictD (by rfl) mD PyProof.Rows.Boot.«dict» (pa_cons (pe_fld (pv 0) rfl) pa_nil)))), ?_⟩
    refine ⟨_, rfl, t, C, dx, _, .ref d, rfl, ht, G.cl, G.nT, rfl, d, _, rfl, .inl h1.1, fun p hp => k p T _ hp (same_new hp) ⟨upd_same, fun u hu => ⟨same_new hp _ _ (h1.2 u hu).1, (h1.2 u hu).2⟩⟩ rfl⟩
def sp_sbrings (C : Addr) : Sp := fun vs H Q _ => ∃ (t : Addr) (S : CT) (B : NI), vs = [.ref t] ∧ StmAt H C t S B ∧ ∀ (d : Addr) (H' : Hp), H d = none → Same H H' → H' d = some (dI B) → Q (.ref d) H'
theorem ok_sbrings (F : FunD K "brings" "Statement.brings" (defArgs s_Statement_brings) (defBody s_Statement_brings) (defScope s_Statement_brings) [] [] f fd) (G : StmC K C) (mD : mg "dict" = none) : FnOk P w K mg base CX0 1 f fd ["self"] (sp_sbrings C) := by
  refine F.ok sc_Statement_brings (fun vs H Q E h => ?_) (fun cdv A outer s H vs Q E hr h => ?_)
  · obtain ⟨t, S, B, rfl, _⟩ := h
    rfl
  · obtain ⟨t, S, B, rfl, ⟨dx, d, e, T, ⟨ht, h1, h2⟩, rfl, oS, _⟩, k⟩ := h
    refine ⟨_, PSs.nox (pss_one (ps_ret (pe_callTy call_dictD (by rfl) mD PyProof.Rows.Boot.«dict» (pa_cons (pe_fld (pv 0) rfl) pa_nil)))), ?_⟩
    exact ⟨_, rfl, t, C, dx, _, .ref e, rfl, ht, G.cl, G.nB, rfl, e, _, rfl, .inl h2, fun p hp => k p _ hp (same_new hp) upd_same⟩
def sp_sreads (C : Addr) : Sp := fun vs H Q _ => ∃ (t : Addr) (S : CT) (B : NI), vs = [.ref t] ∧ StmAt H C t S B ∧ ∀ (l : Addr), H l = none → Q (.ref l) (upd H l (.lst ((kg S).map V.str)))
theorem ok_sreads (F : FunD K "reads" "Statement.reads" (defArgs s_Statement_reads) (defBody s_Statement_reads) (defScope s_Statement_reads) [] [] f fd) (G : StmC K C) (mL : mg "list" = none) : FnOk P w K mg base CX0 1 f fd ["self"] (sp_sreads C) := by
  refine F.ok sc_Statement_reads (fun vs H Q E h => ?_) (fun cdv A outer s H vs Q E hr h => ?_)
  · obtain ⟨t, S, B, rfl, _⟩ := h
    rfl
  · obtain ⟨t, S, B, rfl, ⟨dx, d, e, T, ⟨ht, h1, h2⟩, rfl, oS, _⟩, k⟩ := h
    refine ⟨_, PSs.nox (pss_one (ps_ret (pe_callTy (call_listD rfl) (by rfl) mL PyProof.Rows.Boot.«list» (pa_cons (pe_fld (pv 0) rfl) pa_nil)))), ?_⟩
    refine ⟨_, rfl, t, C, dx, _, .ref d, rfl, ht, G.cl, G.nT, rfl, d, _, rfl, .inl h1.1, fun p hp => ?_⟩
    rw [keys_tur]
    exact k p hp
def sp_swrites (C : Addr) : Sp := fun vs H Q _ => ∃ (t : Addr) (S : CT) (B : NI), vs = [.ref t] ∧ StmAt H C t S B ∧ ∀ (l : Addr) (ys : List Str) (H' : Hp), H l = none → Same H H' → H' l = some (.lst (ys.map V.str)) → ys.Perm (dd (flatT S ++ ks B) (flatT S ++ ks B).length) → sortedS ys = true → Q (.ref l) H'
abbrev wrN : List Str := ["self", "becoming", "kinds", "kind"]
theorem ok_swrites (F : FunD K "writes" "Statement.writes" (defArgs s_Statement_writes) (defBody s_Statement_writes) (defScope s_Statement_writes) [] [] f fd) (G : StmC K C) (mS : mg "sorted" = none) (mE : mg "set" = none) : FnOk P w K mg base CX0 1 f fd ["self"] (sp_swrites C) := by
  refine F.ok sc_Statement_writes (fun vs H Q E h => ?_) (fun cdv A outer s H vs Q E hr h => ?_)
  · obtain ⟨t, S, B, rfl, _⟩ := h
    rfl
  · obtain ⟨t, S, B, rfl, ⟨dx, d, e, T, ⟨ht, h1, h2⟩, rfl, oS, nde⟩, k⟩ := h
    have nd := sc_Statement_writes.nd
    refine ⟨_, PSs.nox (pss_cons (ps_lock (ps_setLc2 (i := 1) (own := [("kinds", 2), ("kind", 3)]) (vs1 := [3]) (g := gName 2) (g1 := gName 3) (wi1 := iTup K (tVar 2)) (te := tVar 3) (tt := tYes) (tt1 := tYes) rfl nd rfl rfl (sw_true rfl rfl rfl (by decide +kernel)) (pi_values (pe_fld (pv 0) rfl)) (blkOk_by (N := wrN) (sc := defScope s_Statement_writes) (by decide +kernel)) (by decide)
        (fun _ _ _ _ _ => pg_name (i := 2) nd rfl (Or.inl rfl)) (fun _ _ _ _ _ => pts_nil) (fun _ _ _ _ _ => pi_tup (pv 2)) (fun _ _ _ _ _ => pg_name (i := 3) nd rfl (Or.inl rfl)) (fun _ _ _ _ _ => pts_nil) (fun _ _ _ _ _ => pv 3)))
      (pss_one (ps_ret (pe_callB (r := rSortTx P w) (cr_sortTx rfl) (by rfl) mS (by decide +kernel) (pa_cons (pe_callTy (r := rSetTx K P w) (cr_setTx rfl) (by rfl) mE (by decide +kernel) (pa_cons (pe_lst (StX.pa_star (pv 1) (pa_starD rfl (pe_fld (pv 0) rfl) pa_nil))) pa_nil)) pa_nil))))), ?_⟩
    refine ⟨d, .dK (T.map tkv), h1.1, True.intro, fun od => ?_⟩
    have el : (upd H d (.frz od (.dK (T.map tkv)))) d = some (.frz od (.dK (T.map tkv))) := upd_same
    have ntd : t ≠ d := fun z => by rw [z, h1.1] at ht; cases ht
    have e1 : (upd H d (.frz od (.dK (T.map tkv)))) t = some (.ins C dx [("_turns", .ref d), ("_brings", .ref e)]) := by rw [upd_ne ntd]; exact ht
    have eT : ∀ u ∈ T, (upd H d (.frz od (.dK (T.map tkv)))) u.2.1 = some (.tup (u.2.2.map V.str)) := fun u hu => by
      have := (h1.2 u hu).1
      rw [upd_ne (fun z => by rw [z, h1.1] at this; cases this)]
      exact this
    refine ⟨_, rfl, t, C, dx, _, .ref d, rfl, e1, G.cl, G.nT, rfl, d, od, T.map tkv, rfl, el, fun D hD => ?_⟩
    have fl : ∀ i, ((T.take i).flatMap fun u => u.2.2).length ≤ 24 := fun i => by
      have h0 : (flatT (ct (T.take i))).length ≤ 3 * (ct (T.take i)).length := flatT_len fun p hp => by
        obtain ⟨u, hu, rfl⟩ := List.mem_map.mp hp
        exact (oS.ns _ (List.mem_map.mpr ⟨u, List.mem_of_mem_take hu, rfl⟩)).2.1
      rw [flatT_ct] at h0
      have h3 : (ct (T.take i)).length ≤ T.length := by
        show (List.map _ _).length ≤ _
        rw [List.length_map, List.length_take]
        omega
      have h4 := oS.ls
      have h5 : (ct T).length = T.length := List.length_map _
      omega
    refine two_out (walk_values (o := od) (d := d) (kvs := T.map tkv)) (fun i H' => Same (upd H d (.frz od (.dK (T.map tkv)))) H' ∧ H' D = some (.lst (((T.take i).flatMap fun u => u.2.2).map V.str))) ⟨same_new hD, upd_same⟩ (fun i H' _ ⟨s2, _⟩ => s2 _ _ el) ?_ ?_
    · rintro i x Ha Hb hi ⟨s2, hz⟩ ⟨eh, kk, hk⟩
      subst eh
      rw [List.getElem?_map] at hk
      obtain ⟨u, hu, eu⟩ := Option.map_eq_some_iff.mp hk
      have ex : x = .ref u.2.1 := (congrArg Prod.snd eu).symm
      subst ex
      have hm := List.mem_of_getElem? hu
      refine ⟨rfl, yes_of (iteT ⟨_, rfl, u.2.1, rfl, ⟨_, SqT.of (s2 _ _ (eT u hm))⟩, ?_⟩)⟩
      refine two_in (walk_tup (K := K) (a := u.2.1) (xs := u.2.2.map V.str)) (fun j H' => Same (upd H d (.frz od (.dK (T.map tkv)))) H' ∧ H' D = some (.lst ((((T.take i).flatMap fun u => u.2.2) ++ u.2.2.take j).map V.str))) ⟨s2, by rw [List.take_zero, List.append_nil]; exact hz⟩ (fun j H' _ ⟨s3, _⟩ => SqT.of (s3 _ _ (eT u hm))) ?_ ?_
      · rintro j y Hc Hd hj ⟨s3, hz3⟩ ⟨eh, hy⟩
        subst eh
        rw [List.getElem?_map] at hy
        obtain ⟨z, hz', ez⟩ := Option.map_eq_some_iff.mp hy
        subst ez
        refine ⟨rfl, yes_of (iteT ⟨_, rfl, _, hz3, ?_, ?_, ?_⟩)⟩
        · have h3 := (oS.ns _ (List.mem_map.mpr ⟨u, hm, rfl⟩)).2.1
          rw [List.length_map, List.length_append, List.length_take, sizeLine_eq]
          have := fl i
          have h6 : u.2.2.length ≤ 3 := h3
          omega
        · intro c o e
          rw [upd_ne (ne_of_none e hD)]
          exact s3 _ _ e
        · rw [upd_same, List.take_succ, hz']
          simp
      · rintro Hc ⟨s3, hz3⟩
        rw [List.length_map, List.take_length] at hz3
        refine ⟨s3, ?_⟩
        rw [List.take_succ, hu, List.flatMap_append]
        simpa using hz3
    · rintro Hc ⟨s2, hz⟩
      rw [List.length_map, List.take_length, ← flatT_ct] at hz
      have ll := fl T.length
      rw [List.take_length, ← flatT_ct] at ll
      refine ⟨s2 _ _ el, ?_⟩
      have s3 : Same H (upd Hc d (.dK (T.map tkv))) := fun c o e => by
        by_cases h : c = d
        · subst h
          rw [upd_same, ← e, h1.1]
        · rw [upd_ne h]
          exact s2 _ _ (by rw [upd_ne h]; exact e)
      have nDd : D ≠ d := fun z => by rw [z, el] at hD; cases hD
      have hz3 : (upd Hc d (.dK (T.map tkv))) D = some (.lst ((flatT (ct T)).map V.str)) := by rw [upd_ne nDd]; exact hz
      generalize upd Hc d (.dK (T.map tkv)) = H2 at s3 hz3
      have lb := oS.lb
      refine ⟨_, rfl, D, _, rfl, .inr (SqL.of hz3), _, rfl, t, C, dx, _, .ref e, rfl, s3 _ _ ht, G.cl, G.nB, rfl, e, _, rfl, .inl (s3 _ _ h2), ?_⟩
      dsimp only [tNil]
      rw [keysV_kvi, List.append_nil, ← List.map_append]
      have lk : (flatT (ct T) ++ ks B).length ≤ 32 := by
        rw [List.length_append, ks_len]
        omega
      refine ⟨by rw [List.length_map, sizeLine_eq]; omega, fun p hp => ⟨p, _, rfl, SqL.of upd_same, by unfold scanBound; omega, fun a ha => ⟨a, _, rfl, upd_same, ?_, fun ys q pm so hq => ?_⟩⟩⟩
      · have := dd_len (flatT (ct T) ++ ks B) (flatT (ct T) ++ ks B).length
        omega
      · have sf : Same H (upd (upd (upd H2 p (.lst ((flatT (ct T) ++ ks B).map V.str))) a (StrO P w a (dd (flatT (ct T) ++ ks B) (flatT (ct T) ++ ks B).length))) q (.lst (ys.map V.str))) := s3.trans ((same_new hp).trans ((same_new ha).trans (same_new hq)))
        exact k q ys _ (free_same (s3.trans ((same_new hp).trans (same_new ha))) hq) sf upd_same pm so
end
end Lw
/-! ## StE -/
set_option Elab.async false
set_option linter.all false
set_option maxRecDepth 100000
set_option maxHeartbeats 8000000
set_option pp.deepTerms false
set_option pp.deepTerms.threshold 3
set_option pp.maxSteps 500
namespace Sl
open PySem PySem.Spec PyProof.Rows L2 Lw
/-- xs != [] -/
def rNeNil (K : PySem.W.Frag) : R2 := fun x y H Q => ∃ (a b : Addr) (xs : List V), x = .ref a ∧ y = .ref b ∧ SqL K H a xs ∧ SqL K H b [] ∧ Q (.bl (!xs.isEmpty)) H
theorem op_neNil {X : Cx} (hu : X.A.units < cLine) : OpR X (compareOp .NotEq) (rNeNil X.K) := by
  intro pins s σ H x y v u Q I rx ry h
  obtain ⟨a, b, xs, rfl, rfl, ha, hb, q⟩ := h
  cases (show v = Value.ref a from rx)
  cases (show u = Value.ref b from ry)
  obtain ⟨us, r1, p1, _⟩ := I.list ha
  obtain ⟨ws, r2, p2, _⟩ := I.list hb
  cases r2
  cases r1 with
  | nil => exact SeqAt.RcNeAt.lists (e := fun _ => true) p1.isList p2.isList rfl hu (fun j h1 _ => absurd h1 (Nat.not_lt_zero _)) X.prog X.w _ _ ⟨.bl _, H, I, rfl, q⟩
  | cons r t => exact SeqAt.RcNeAt.lists_lengths p1.isList p2.isList (by simp) hu X.prog X.w _ _ ⟨.bl _, H, I, rfl, q⟩
/-! ### texts -/
def rCat2 : R2 := fun x y H Q => ∃ i j, x = .str i ∧ y = .str j ∧ i.length + j.length ≤ sizeLine ∧ Q (.str (i ++ j)) H
theorem op_cat2 {X : Cx} : OpR X (binaryOp .Add) rCat2 := op_add_str
def rJn (K : PySem.W.Frag) : V → List V → Hp → VK → Prop := fun x xs H Q => ∃ (a : Str) (p : Addr) (ys : List Str), x = .str a ∧ xs = [.ref p] ∧ (SqL K H p (ys.map V.str) ∨ SqT K H p (ys.map V.str)) ∧ (ys.map (·.length)).sum + ys.length * a.length ≤ 16777216 ∧ Q (.str (Txt.join a ys)) H
theorem pe_jn {X : Cx} {o e : Expr} {to te : TE} {apos pos : Pos} (ho : PE X o to) (he : PE X e te) (hs : starEach [e] X.env = [(false, eval e X.env)] := by rfl) (hb : attributeBase o "join" X.env (eval o X.env) = eval o X.env := by rfl) (hl : (apos.endLine == pos.line) = true := by rfl) :
    PE X (.Call (.Attribute o "join" apos) [e] [] pos) (tM1 (rJn X.K) to te) := pe_join ho he hs hb hl
def rStrI : List V → Hp → VK → Prop := fun xs H Q => ∃ i : Int, xs = [.int i] ∧ i.natAbs.log2 < 1920 ∧ Q (.str (toString i)) H
theorem cr_strI {X : Cx} : CallR X (.type "str") rStrI := call_str_int
abbrev teT (K : PySem.W.Frag) (i j : Nat) : TE := tOp rCat2 (tOp rCat2 (tVar i) (tC (.str ">"))) (tM1 (rJn K) (tC (.str " ")) (tVar j))
abbrev teB (i j : Nat) : TE := tOp rCat2 (tOp rCat2 (tOp rCat2 (tC (.str "+")) (tVar i)) (tC (.str " "))) (tCB rStrI (tCons (tVar j) tNil))
theorem join_le (sep : Str) (l : List Str) : (Txt.join sep l).length ≤ (l.map (·.length)).sum + l.length * sep.length := by
  unfold Txt.join
  rw [StrLaws.glued_eq_join]
  exact StrLaws.join_length_le sep l
theorem sum_le {l : List Str} {m : Nat} (h : ∀ x ∈ l, x.length ≤ m) : (l.map (·.length)).sum ≤ m * l.length := by
  induction l with
  | nil => exact Nat.le_refl _
  | cons x r ih =>
    have h1 := h x List.mem_cons_self
    have h2 := ih fun y hy => h y (List.mem_cons_of_mem _ hy)
    rw [List.map_cons, List.sum_cons, List.length_cons, Nat.mul_succ]
    omega
abbrev gtS : Str := ">"
abbrev blS : Str := " "
abbrev plS : Str := "+"
abbrev cmS : Str := ", "
def intS (i : Int) : Str := toString i
def turP (k : Str) (ws : List Str) : Str := k ++ gtS ++ Txt.join blS ws
def briP (k : Str) (i : Int) : Str := plS ++ k ++ blS ++ intS i
def partsOf (S : CT) (B : NI) : List Str := (S.map fun p => turP p.1 p.2) ++ B.map fun b => briP b.1 b.2
def txt (S : CT) (B : NI) : Str := if (partsOf S B).isEmpty = true then "nothing" else Txt.join cmS (partsOf S B)
theorem l1 : gtS.length = 1 ∧ blS.length = 1 ∧ plS.length = 1 ∧ cmS.length = 2 := by decide +kernel
theorem intS_len {i : Int} (h1 : 1 ≤ i) (h9 : i ≤ 9) : (intS i).length ≤ 3 ∧ i.natAbs.log2 < 1920 := by
  have : i = 1 ∨ i = 2 ∨ i = 3 ∨ i = 4 ∨ i = 5 ∨ i = 6 ∨ i = 7 ∨ i = 8 ∨ i = 9 := by omega
  rcases this with h | h | h | h | h | h | h | h | h <;> subst h <;> decide +kernel
theorem joinW_len {ws : List Str} (h3 : ws.length ≤ 3) (h : ∀ z ∈ ws, nameB z = true) : (Txt.join blS ws).length ≤ 27 ∧ (ws.map (·.length)).sum + ws.length * blS.length ≤ 27 := by
  have h1 := join_le blS ws
  have h2 := sum_le (m := 8) fun x hx => (nameB_len (h x hx)).2
  rw [l1.2.1] at h1 ⊢
  omega
theorem turP_len {k : Str} {ws : List Str} (hk : nameB k = true) (h3 : ws.length ≤ 3) (h : ∀ z ∈ ws, nameB z = true) : 1 ≤ (turP k ws).length ∧ (turP k ws).length ≤ 40 := by
  unfold turP
  rw [PySem.Str.length_append, PySem.Str.length_append, l1.1]
  have := joinW_len h3 h
  have := nameB_len hk
  omega
theorem briP_len {k : Str} {i : Int} (hk : nameB k = true) (h1 : 1 ≤ i) (h9 : i ≤ 9) : 1 ≤ (briP k i).length ∧ (briP k i).length ≤ 40 := by
  unfold briP
  rw [PySem.Str.length_append, PySem.Str.length_append, PySem.Str.length_append, l1.2.1, l1.2.2.1]
  have := intS_len h1 h9
  have := nameB_len hk
  omega
theorem parts_len {S : CT} {B : NI} (o : SOk S B) : ∀ x ∈ partsOf S B, 1 ≤ x.length ∧ x.length ≤ 40 := fun x hx => by
  rcases List.mem_append.mp hx with h | h
  · obtain ⟨p, hp, rfl⟩ := List.mem_map.mp h
    obtain ⟨a, b, c⟩ := o.ns p hp
    exact turP_len a b c
  · obtain ⟨p, hp, rfl⟩ := List.mem_map.mp h
    obtain ⟨a, b, c⟩ := o.nb p hp
    exact briP_len a b c
theorem parts_num {S : CT} {B : NI} (o : SOk S B) : (partsOf S B).length ≤ 16 := by
  unfold partsOf
  rw [List.length_append, List.length_map, List.length_map]
  have := o.ls
  have := o.lb
  omega
theorem parts_join {S : CT} {B : NI} (o : SOk S B) : ((partsOf S B).map (·.length)).sum + (partsOf S B).length * cmS.length ≤ 700 ∧ (Txt.join cmS (partsOf S B)).length ≤ 700 := by
  have h1 := join_le cmS (partsOf S B)
  have h2 := sum_le (m := 40) fun x hx => (parts_len o x hx).2
  have h3 := parts_num o
  rw [l1.2.2.2] at h1 ⊢
  omega
theorem join_pos {l : List Str} (h : ∀ x ∈ l, 1 ≤ x.length) (sep : Str) : ((Txt.join sep l).length = 0) ↔ l = [] := by
  constructor
  · intro e
    have h1 := len_join_ge_sum sep l
    cases l with
    | nil => rfl
    | cons x r =>
      have := h x List.mem_cons_self
      rw [List.map_cons, List.sum_cons] at h1
      omega
  · intro e
    subst e
    rfl
theorem pair_tkv {T : TT'} {i : Nat} {H H' : Hp} {x : V} (hi : i < (T.map tkv).length) (y : YPair (fun i => (T.map tkv)[i]?.map fun kv => kV kv.1) (fun i => (T.map tkv)[i]?.map Prod.snd) i H x H') :
    ∃ (a : Addr) (u : Str × Addr × List Str), T[i]? = some u ∧ x = .ref a ∧ H a = none ∧ H' = upd H a (.tup [.str u.1, .ref u.2.1]) := by
  obtain ⟨a, b, c, h1, ha, h2, hb, hc⟩ := y
  rw [List.length_map] at hi
  have hu : T[i]? = some T[i] := List.getElem?_eq_getElem hi
  dsimp only at hb hc
  rw [List.getElem?_map, hu] at hb hc
  obtain rfl : b = .str T[i].1 := (Option.some.inj hb).symm
  obtain rfl : c = .ref T[i].2.1 := (Option.some.inj hc).symm
  exact ⟨a, T[i], hu, h1, ha, h2⟩
theorem pair_kvi {N : NI} {i : Nat} {H H' : Hp} {x : V} (hi : i < (N.map kvi).length) (y : YPair (fun i => (N.map kvi)[i]?.map fun kv => kV kv.1) (fun i => (N.map kvi)[i]?.map Prod.snd) i H x H') :
    ∃ (T : Addr) (q : Str × Int), N[i]? = some q ∧ x = .ref T ∧ H T = none ∧ H' = upd H T (.tup [.str q.1, .int q.2]) := by
  obtain ⟨T, a, b, h1, hT, h2, ha, hb⟩ := y
  rw [List.length_map] at hi
  have hq : N[i]? = some N[i] := List.getElem?_eq_getElem hi
  dsimp only at ha hb
  rw [List.getElem?_map, hq] at ha hb
  obtain rfl : a = .str N[i].1 := (Option.some.inj ha).symm
  obtain rfl : b = .int N[i].2 := (Option.some.inj hb).symm
  exact ⟨T, N[i], hq, h1, hT, h2⟩
theorem unlock_same {H H' : Hp} {d : Addr} {u : HO} {od : Obj} (hd : H d = some u) (s : Same (upd H d (.frz od u)) H') : Same H (upd H' d u) := fun c o e => by
  by_cases h : c = d
  · subst h
    rw [upd_same, ← e, hd]
  · rw [upd_ne h]
    exact s _ _ (by rw [upd_ne h]; exact e)
theorem lock_ne {H : Hp} {d c : Addr} {u v : HO} {od : Obj} (hd : H d = some u) (hc : H c = some v) (n : c ≠ d) : (upd H d (.frz od u)) c = some v := by rw [upd_ne n]; exact hc
end Sl
namespace Lw
open PySem PySem.Spec PyProof.Rows L2 Sl
section
variable {P : Program} {w : World} {K : PySem.W.Frag} {mg : Str → Option Value} {base : Heap} {f : Addr} {fd : FuncData} {C : Addr}
def sp_stext (C : Addr) : Sp := fun vs H Q _ => ∃ (t : Addr) (S : CT) (B : NI), vs = [.ref t] ∧ StmAt H C t S B ∧ ∀ H', Same H H' → Q (.str (txt S B)) H'
abbrev txN : List Str := ["self", "turns", "brings", "kind", "kinds", "number"]
theorem ok_stext (F : FunD K "text" "Statement.text" (defArgs s_Statement_text) (defBody s_Statement_text) (defScope s_Statement_text) [] [] f fd) (G : StmC K C) (mS : mg "str" = none) {t1 : Tok} (gN : mg "NOTHING" = some (.str "nothing" t1)) : FnOk P w K mg base CX0 1 f fd ["self"] (sp_stext C) := by
  refine F.ok sc_Statement_text (fun vs H Q E h => ?_) (fun cdv A outer s H vs Q E hr h => ?_)
  · obtain ⟨t, S, B, rfl, _⟩ := h
    rfl
  · obtain ⟨t, S, B, rfl, ⟨dx, d, e, T, ⟨ht, h1, h2⟩, rfl, oS, nde⟩, k⟩ := h
    have nd := sc_Statement_text.nd
    refine ⟨_, PSs.nox (pss_cons (ps_lock (ps_setLc (i := 1) (own := [("kind", 3), ("kinds", 4)]) (g := gTup K 2 (gCons (gName 3) (gCons (gName 4) gNil))) (te := teT K 3 4) (tt := tYes) rfl nd rfl rfl (sw_true rfl rfl rfl (by decide +kernel)) (pi_items (pe_fld (pv 0) rfl)) (blkOk_by (N := txN) (sc := defScope s_Statement_text) (by decide +kernel))
        (fun _ _ _ _ _ => pg_two (i := 3) (j := 4) rfl nd rfl rfl (Or.inl rfl) (Or.inl rfl)) (fun _ _ _ _ _ => pts_nil) (fun _ _ _ _ _ => pe_op op_cat2 (pe_op op_cat2 (pv 3) pe_str) (pe_jn pe_str (pv 4)))))
      (pss_cons (ps_lock (ps_setLc (i := 2) (own := [("kind", 3), ("number", 5)]) (g := gTup K 2 (gCons (gName 3) (gCons (gName 5) gNil))) (te := teB 3 5) (tt := tYes) rfl nd rfl rfl (sw_true rfl rfl rfl (by decide +kernel)) (pi_items (pe_fld (pv 0) rfl)) (blkOk_by (N := txN) (sc := defScope s_Statement_text) (by decide +kernel))
        (fun _ _ _ _ _ => pg_two (i := 3) (j := 5) rfl nd rfl rfl (Or.inl rfl) (Or.inl rfl)) (fun _ _ _ _ _ => pts_nil) (fun _ _ _ _ _ => pe_op op_cat2 (pe_op op_cat2 (pe_op op_cat2 pe_str (pv 3)) pe_str) (pe_callTy (r := rStrI) cr_strI (by rfl) mS PyProof.Rows.Boot.«str» (pa_cons (pv 5) pa_nil)))))
      (pss_one (ps_ret (pe_orT (pe_jn pe_str (pe_lst (StX.pa_star (pv 1) (StX.pa_star (pv 2) pa_nil)))) (pe_one (pe_glob (v := .str "nothing") (by rfl) gN ⟨_, rfl⟩))))))), ?_⟩
    have z1 : ∀ {H1 H2 H3 : Hp} {D : Addr} {L : List Str} {z : Str}, H1 D = none → Same H1 H2 → Same H1 (upd H2 D (.lst (L.map V.str ++ [V.str z]))) := fun {H1 H2 H3 D L z} hD s2 c o e => by
      rw [upd_ne (ne_of_none e hD)]
      exact s2 _ _ e
    refine ⟨d, .dK (T.map tkv), h1.1, True.intro, fun od => ?_⟩
    have el : (upd H d (.frz od (.dK (T.map tkv)))) d = some (.frz od (.dK (T.map tkv))) := upd_same
    have e1 := lock_ne (od := od) h1.1 ht (fun z => by rw [z, h1.1] at ht; cases ht)
    have eT : ∀ u ∈ T, (upd H d (.frz od (.dK (T.map tkv)))) u.2.1 = some (.tup (u.2.2.map V.str)) := fun u hu => lock_ne h1.1 (h1.2 u hu).1 (fun z => by have := (h1.2 u hu).1; rw [z, h1.1] at this; cases this)
    refine ⟨_, rfl, t, C, dx, _, .ref d, rfl, e1, G.cl, G.nT, rfl, d, od, T.map tkv, rfl, el, fun D hD => ?_⟩
    have lT : T.length ≤ 8 := by
      have h5 : (ct T).length = T.length := List.length_map _
      have := oS.ls
      omega
    refine lc_it (walk_items (o := od) (d := d) (kvs := T.map tkv)) (fun i H' => Same (upd H d (.frz od (.dK (T.map tkv)))) H' ∧ H' D = some (.lst (((T.take i).map fun u => turP u.1 u.2.2).map V.str))) ⟨same_new hD, upd_same⟩ (fun i H' _ ⟨s2, _⟩ => s2 _ _ el) ?_ ?_
    · rintro i x Ha Hb hi ⟨s2, hz⟩ hy
      obtain ⟨a, u, hu, rfl, ha, rfl⟩ := pair_tkv hi hy
      have hm := List.mem_of_getElem? hu
      obtain ⟨q1, q2, q3⟩ := oS.ns _ (List.mem_map.mpr ⟨u, hm, rfl⟩)
      have jl : (Txt.join blS u.2.2).length ≤ 27 ∧ (u.2.2.map (·.length)).sum + u.2.2.length * blS.length ≤ 27 := joinW_len q2 q3
      have nl : 1 ≤ u.1.length ∧ u.1.length ≤ 8 := nameB_len q1
      have s3 := s2.trans (same_new (o := .tup [.str u.1, .ref u.2.1]) ha)
      refine ⟨a, _, rfl, SqT.of upd_same, rfl, _, _, rfl, _, _, rfl, rfl, rfl, yes_of (iteT ?_)⟩
      refine ⟨_, rfl, _, _, rfl, rfl, ?_, ⟨_, rfl⟩, _, rfl, _, u.2.1, u.2.2, rfl, rfl, .inr (SqT.of (s3 _ _ (eT u hm))), ?_, _, _, rfl, rfl, ?_, _, by rw [upd_ne (ne_of_none hz ha)]; exact hz, ?_, z1 (H3 := H) hD s3, ?_⟩
      · show u.1.length + gtS.length ≤ _
        rw [l1.1, sizeLine_eq]
        have := nl.2
        omega
      · exact Nat.le_trans jl.2 (by decide)
      · show (u.1 ++ gtS).length + (Txt.join blS u.2.2).length ≤ _
        rw [PySem.Str.length_append, l1.1, sizeLine_eq]
        have := nl.2
        have := jl.1
        omega
      · rw [List.length_map, List.length_map, List.length_take, sizeLine_eq]
        omega
      · rw [upd_same, List.take_succ, hu]
        simp [turP]
    · rintro Hc ⟨s2, hz⟩
      rw [List.length_map, List.take_length] at hz
      refine ⟨s2 _ _ el, ?_⟩
      have s3 := unlock_same h1.1 s2
      have nDd : D ≠ d := fun z => by rw [z, el] at hD; cases hD
      have hz3 : (upd Hc d (.dK (T.map tkv))) D = some (.lst ((T.map fun u => turP u.1 u.2.2).map V.str)) := by rw [upd_ne nDd]; exact hz
      generalize upd Hc d (.dK (T.map tkv)) = H2 at s3 hz3
      have ht2 := s3 _ _ ht
      have h22 := s3 _ _ h2
      refine ⟨e, .dK (B.map kvi), h22, True.intro, fun od2 => ?_⟩
      have el2 : (upd H2 e (.frz od2 (.dK (B.map kvi)))) e = some (.frz od2 (.dK (B.map kvi))) := upd_same
      have e2 := lock_ne (od := od2) h22 ht2 (fun z => by rw [z, h22] at ht2; cases ht2)
      have nDe : D ≠ e := fun z => by rw [z, h22] at hz3; cases hz3
      have e3 := lock_ne (od := od2) h22 hz3 nDe
      refine ⟨_, rfl, t, C, dx, _, .ref e, rfl, e2, G.cl, G.nB, rfl, e, od2, B.map kvi, rfl, el2, fun D2 hD2 => ?_⟩
      have lB := oS.lb
      refine lc_it (walk_items (o := od2) (d := e) (kvs := B.map kvi)) (fun i H' => Same (upd H2 e (.frz od2 (.dK (B.map kvi)))) H' ∧ H' D2 = some (.lst (((B.take i).map fun b => briP b.1 b.2).map V.str))) ⟨same_new hD2, upd_same⟩ (fun i H' _ ⟨s2, _⟩ => s2 _ _ el2) ?_ ?_
      · rintro i x Ha Hb hi ⟨s4, hy2⟩ hy
        obtain ⟨a, u, hu, rfl, ha, rfl⟩ := pair_kvi hi hy
        obtain ⟨q1, q2, q3⟩ := oS.nb _ (List.mem_of_getElem? hu)
        have il := intS_len q2 q3
        have nl := nameB_len q1
        have s5 := s4.trans (same_new (o := .tup [.str u.1, .int u.2]) ha)
        refine ⟨a, _, rfl, SqT.of upd_same, rfl, _, _, rfl, _, _, rfl, rfl, rfl, yes_of (iteT ?_)⟩
        refine ⟨_, rfl, _, _, rfl, rfl, ?_, _, _, rfl, rfl, ?_, _, rfl, u.2, rfl, il.2, _, _, rfl, rfl, ?_, _, by rw [upd_ne (ne_of_none hy2 ha)]; exact hy2, ?_, z1 (H3 := H) hD2 s5, ?_⟩
        · show plS.length + u.1.length ≤ _
          rw [l1.2.2.1, sizeLine_eq]
          have := nl.2
          omega
        · show (plS ++ u.1).length + blS.length ≤ _
          rw [PySem.Str.length_append, l1.2.2.1, l1.2.1, sizeLine_eq]
          have := nl.2
          omega
        · show (plS ++ u.1 ++ blS).length + (intS u.2).length ≤ _
          rw [PySem.Str.length_append, PySem.Str.length_append, l1.2.2.1, l1.2.1, sizeLine_eq]
          have := nl.2
          have := il.1
          omega
        · rw [List.length_map, List.length_map, List.length_take, sizeLine_eq]
          omega
        · rw [upd_same, List.take_succ, hu]
          simp [briP, intS]
      · rintro Hd ⟨s4, hy2⟩
        rw [List.length_map, List.take_length] at hy2
        refine ⟨s4 _ _ el2, ?_⟩
        have s5 : Same H (upd Hd e (.dK (B.map kvi))) := s3.trans (unlock_same h22 s4)
        have n2e : D2 ≠ e := fun z => by rw [z, el2] at hD2; cases hD2
        have f1 : (upd Hd e (.dK (B.map kvi))) D2 = some (.lst ((B.map fun b => briP b.1 b.2).map V.str)) := by rw [upd_ne n2e]; exact hy2
        have f2 : (upd Hd e (.dK (B.map kvi))) D = some (.lst ((T.map fun u => turP u.1 u.2.2).map V.str)) := by rw [upd_ne nDe]; exact s4 _ _ e3
        generalize upd Hd e (.dK (B.map kvi)) = H3 at s5 f1 f2
        have ep : (T.map fun u => turP u.1 u.2.2).map V.str ++ ((B.map fun b => briP b.1 b.2).map V.str ++ []) = (partsOf (ct T) B).map V.str := by
          unfold partsOf ct
          rw [List.append_nil, List.map_append, List.map_map, List.map_map, List.map_map, List.map_map]
          rfl
        have pl := parts_len oS
        have pj := parts_join oS
        refine ⟨⟨_, rfl⟩, _, rfl, D, _, rfl, .inr (SqL.of f2), _, rfl, D2, _, rfl, .inr (SqL.of f1), ?_⟩
        dsimp only [tNil]
        rw [ep]
        refine ⟨by rw [List.length_map, sizeLine_eq]; have := parts_num oS; omega, fun p hp => ⟨_, p, partsOf (ct T) B, rfl, rfl, .inl (SqL.of upd_same), Nat.le_trans pj.1 (by decide), _, ⟨Nat.le_trans pj.2 (by rw [sizeLine_eq]; decide), rfl⟩, ?_⟩⟩
        have tx : ∀ b : Bool, (partsOf (ct T) B).isEmpty = b → txt (ct T) B = if b = true then ("nothing" : Str) else Txt.join cmS (partsOf (ct T) B) := fun b hb => by unfold txt; rw [hb]
        have jp := join_pos (fun x hx => (pl x hx).1) cmS
        have k' := k _ (s5.trans (same_new (o := .lst ((partsOf (ct T) B).map V.str)) hp))
        refine ite_of (fun c => ?_) (fun c => ?_)
        · have c' : (partsOf (ct T) B).isEmpty = false := by
            cases h : (partsOf (ct T) B).isEmpty with
            | false => rfl
            | true =>
              have := jp.mpr (List.isEmpty_iff.mp h)
              rw [show (Txt.join (", " : Str) (partsOf (ct T) B)).length = 0 from this] at c
              cases c
          rw [tx _ c'] at k'
          exact k'
        · have c' : (partsOf (ct T) B).isEmpty = true := by
            refine List.isEmpty_iff.mpr (jp.mp ?_)
            have c2 : (((Txt.join cmS (partsOf (ct T) B)).length : Int) != 0) = false := c
            have := bne_eq_false_iff_eq.mp c2
            omega
          rw [tx _ c'] at k'
          exact k'
end
end Lw
/-! ## SlBits -/
set_option Elab.async false
set_option linter.all false
set_option maxRecDepth 100000
set_option maxHeartbeats 4000000
namespace Sl
open PySem PySem.Spec PyProof.Rows L2
theorem bits_bool {prog : Program} {w : World} {A : Around} {E : Value → Shared → Prop} {s : Shared} {b : Bool} {Q : Value → Shared → Prop} (h : Q (.int (if b then 1 else 0) s.toks) { s with toks := s.toks + 1 }) :
    wpAny (model prog w) A (call (.builtin "int.bit_length") [.bool b]) Q E s := by
  refine wpAny_call_entry PySem.F.slot_bool_bit_length (PySem.typeIs_bool s b) PyProof.Rows.entry_int_bit_length ?_ (PyProof.Rows.args_int_bit_length _)
  show wpAny _ _ (do ret (← mkInt (Builtin.Int.intBits (if b then 1 else 0)))) _ _ s
  refine wpAny_ret_mkInt ?_
  cases b
  · exact h
  · exact h
/-- x.bit_length() of an int, of a bool -/
def tBitsB (to : TE) : TE := fun σ H Q => to σ H fun x H1 => (∃ i, x = .int i ∧ Q (.int (Builtin.Int.intBits i : Nat)) H1) ∨ ∃ b, x = .bl b ∧ Q (.int (if b then 1 else 0)) H1
theorem pe_bitsB {X : Cx} {o : Expr} {to : TE} {apos pos : Pos} (ho : PE X o to) (hbase : attributeBase o "bit_length" X.env (eval o X.env) = eval o X.env := by rfl) (hline : (apos.endLine == pos.line) = true := by rfl) : PE X (.Call (.Attribute o "bit_length" apos) [] [] pos) (tBitsB to) := by
  refine ⟨fun pins s σ H Q I h => PySem.Call_method0 hbase hline (thn (ho.run pins s σ H _ I h) fun v s1 ⟨x, H1, I1, r1, q1⟩ => ?_)⟩
  rcases q1 with ⟨i, rfl, q1⟩ | ⟨b, rfl, q1⟩
  · obtain ⟨t, rfl⟩ := r1
    exact ⟨"int", _, PySem.F.plainAttrs_int, PyProof.Rows.slot_int_bit_length, PyProof.Rows.type_int_bit_length, typeIs_int _ _ _, (fun _ e => nomatch e), Calls.callWith_builtin rfl (PySem.evalArgs_none (call_int_bit_length ⟨.int _, H1, I1.tok _, ⟨_, rfl⟩, q1⟩))⟩
  · cases (show v = Value.bool b from r1)
    exact ⟨"bool", _, PySem.F.plainAttrs_bool, PySem.F.slot_bool_bit_length, PyProof.Rows.type_int_bit_length, PySem.typeIs_bool _ _, (fun _ e => nomatch e), Calls.callWith_builtin rfl (PySem.evalArgs_none (bits_bool ⟨.int _, H1, I1.tok _, ⟨_, rfl⟩, q1⟩))⟩
end Sl
/-! ## ErA -/
set_option Elab.async false
set_option linter.all false
set_option maxRecDepth 100000
set_option maxHeartbeats 4000000
namespace Lw
open PySem PySem.Spec PyProof.Rows L2 Sl
section
variable {P : Program} {w : World} {K : PySem.W.Frag} {mg : Str → Option Value} {base : Heap} {f : Addr} {fd : FuncData}
/-- what an error of these is made with -/
inductive Fld (H : Hp) : V → Prop where
  | non : Fld H .non
  | bl (b : Bool) : Fld H (.bl b)
  | int (i : Int) : Fld H (.int i)
  | str (x : Str) : Fld H (.str x)
  | lst {a : Addr} {xs : List V} (e : H a = some (.lst xs)) : Fld H (.ref a)
  | tup {a : Addr} {xs : List V} (e : H a = some (.tup xs)) : Fld H (.ref a)
  | dct {a : Addr} {kvs : List (Key × V)} (e : H a = some (.dK kvs)) : Fld H (.ref a)
theorem Fld.mono {H H' : Hp} {v : V} (h : Fld H v) (k : ∀ a o, H a = some o → (∃ xs, o = .lst xs) ∨ (∃ xs, o = .tup xs) ∨ (∃ kvs, o = .dK kvs) → H' a = some o) : Fld H' v := by
  cases h with
  | non => exact .non
  | bl b => exact .bl b
  | int i => exact .int i
  | str x => exact .str x
  | lst e => exact .lst (k _ _ e (.inl ⟨_, rfl⟩))
  | tup e => exact .tup (k _ _ e (.inr (.inl ⟨_, rfl⟩)))
  | dct e => exact .dct (k _ _ e (.inr (.inr ⟨_, rfl⟩)))
def sp_shown : Sp := fun vs H Q _ => ∃ v, vs = [v] ∧ Fld H v ∧ ∀ v', Q v' H
theorem ok_shown (F : FnP K "shown" s_shown [] f fd) (mI : mg "isinstance" = none) (mS : mg "str" = none) (mN : mg "int" = none) {t : Tok} (mB : mg "MOST_BITS" = some (.int 1000 t)) : FnOk P w K mg base CX0 1 f fd ["field"] sp_shown := by
  refine F.ok sc_shown (fun vs H Q E h => ?_) (fun cdv A outer s H vs Q E hr h => ?_)
  · obtain ⟨v, rfl, _⟩ := h
    rfl
  · obtain ⟨v, rfl, hv, k⟩ := h
    refine ⟨_, PSs.nox (pss_cons (ps_if (PW.pt (pw_or (pt_cmp (pc_isN (pv 0))) (pw_or1 (pt_val (pe_callB call_isi (by rfl) mI PyProof.Rows.Boot.«isinstance» (pa_cons (pv 0) (pa_cons (pe_bltn (v := .ty "str") (by rfl) mS PyProof.Rows.Boot.«str» rfl) pa_nil)))))))
        (pss_one (ps_ret (pv 0))) pss_nil)
      (pss_cons (ps_if (PW.pt (pw_and (pt_val (pe_callB call_isi (by rfl) mI PyProof.Rows.Boot.«isinstance» (pa_cons (pv 0) (pa_cons (pe_bltn (v := .ty "int") (by rfl) mN PyProof.Rows.Boot.«int» rfl) pa_nil)))) (pw_and1 (pt_cmpR op_le (pe_bitsB (pv 0)) (pe_glob (v := .int 1000) (by rfl) mB ⟨_, rfl⟩) (nomark _)))))
        (pss_one (ps_ret (pv 0))) pss_nil)
      (pss_one (ps_ret pe_str)))), ?_⟩
    cases hv with
    | non => exact ⟨_, rfl, _, rfl, iteT (iteT ⟨_, rfl, k _⟩)⟩
    | str x => exact ⟨_, rfl, _, rfl, iteF ⟨_, rfl, _, .ty "str", .type "str", .type "str", true, rfl, .ty _, .base (.str _), kit_ty (by decide +kernel), _, rfl, iteT ⟨_, rfl, k _⟩⟩⟩
    | bl b =>
      refine ⟨_, rfl, _, rfl, iteF ⟨_, rfl, _, .ty "str", .type "bool", .type "str", false, rfl, .ty _, .base (.bl _), kit_ty (by decide +kernel), _, rfl, iteF ?_⟩⟩
      refine ⟨_, rfl, _, .ty "int", .type "bool", .type "int", true, rfl, .ty _, .base (.bl _), kit_ty (by decide +kernel), _, rfl, iteT ?_⟩
      refine ⟨_, rfl, .inr ⟨_, rfl, _, _, rfl, rfl, _, rfl, ?_⟩⟩
      exact ite2 (fun _ => ⟨_, rfl, k _⟩) (fun _ => k _)
    | int i =>
      refine ⟨_, rfl, _, rfl, iteF ⟨_, rfl, _, .ty "str", .type "int", .type "str", false, rfl, .ty _, .base (.int _), kit_ty (by decide +kernel), _, rfl, iteF ?_⟩⟩
      refine ⟨_, rfl, _, .ty "int", .type "int", .type "int", true, rfl, .ty _, .base (.int _), kit_ty (by decide +kernel), _, rfl, iteT ?_⟩
      refine ⟨_, rfl, .inl ⟨_, rfl, _, _, rfl, rfl, _, rfl, ?_⟩⟩
      exact ite2 (fun _ => ⟨_, rfl, k _⟩) (fun _ => k _)
    | lst e =>
      refine ⟨_, rfl, _, rfl, iteF ⟨_, rfl, _, .ty "str", .type "list", .type "str", false, rfl, .ty _, .base (.lst e), kit_ty (by decide +kernel), _, rfl, iteF ?_⟩⟩
      exact ⟨_, rfl, _, .ty "int", .type "list", .type "int", false, rfl, .ty _, .base (.lst e), kit_ty (by decide +kernel), _, rfl, iteF (iteF (k _))⟩
    | tup e =>
      refine ⟨_, rfl, _, rfl, iteF ⟨_, rfl, _, .ty "str", .type "tuple", .type "str", false, rfl, .ty _, .base (.tup e), kit_ty (by decide +kernel), _, rfl, iteF ?_⟩⟩
      exact ⟨_, rfl, _, .ty "int", .type "tuple", .type "int", false, rfl, .ty _, .base (.tup e), kit_ty (by decide +kernel), _, rfl, iteF (iteF (k _))⟩
    | dct e =>
      refine ⟨_, rfl, _, rfl, iteF ⟨_, rfl, _, .ty "str", .type "dict", .type "str", false, rfl, .ty _, .base (.dK e), kit_ty (by decide +kernel), _, rfl, iteF ?_⟩⟩
      exact ⟨_, rfl, _, .ty "int", .type "dict", .type "int", false, rfl, .ty _, .base (.dK e), kit_ty (by decide +kernel), _, rfl, iteF (iteF (k _))⟩
end
end Lw
/-! ## ErB -/
set_option Elab.async false
set_option linter.all false
set_option maxRecDepth 100000
set_option maxHeartbeats 4000000
namespace Lw
open PySem PySem.Spec PyProof.Rows L2 Sl
/-! ### __init__ of the errors -/
def sp_lot (K : PySem.W.Frag) : Sp := fun vs H Q _ => ∃ (a C : Addr) (v : V), vs = [.ref a, v] ∧ OexC K C ∧ H a = some (exo a C none) ∧ Fld H v ∧ Q .non H
def sp_init (K : PySem.W.Frag) (fld : Str) : Sp := fun vs H Q _ => ∃ (a C : Addr) (v : V), vs = [.ref a, v] ∧ OexC K C ∧ PySem.W.findIn K (.ref C) fld = some none ∧ H a = some (exo a C none) ∧ Fld H v ∧
  ∀ dx, H dx = none → dx ≠ a → Q .non (upd (upd H dx (exd dx [(fld, v)])) a (exo a C (some dx)))
def sp_init0 (K : PySem.W.Frag) : Sp := fun vs H Q _ => ∃ (a : Addr), vs = [.ref a] ∧ Q .non H
abbrev FnM (K : PySem.W.Frag) (q : Str) (st : Stmt) (f : Addr) (fd : FuncData) : Prop := FunD K "__init__" q (defArgs st) (defBody st) (defScope st) [] [] f fd
section
variable {P : Program} {w : World} {K : PySem.W.Frag} {mg : Str → Option Value} {base : Heap} {f : Addr} {fd : FuncData}
theorem ok_lot (F : FnM K "LotError.__init__" s_LotError___init__ f fd) (S : Cal P w K mg base 1 "shown" [] sp_shown) (mV : mg "ValueError" = none)
    (vV : PySem.W.findCls K (.type "ValueError") (.type "type") "__init__" = some (.val (.builtin "ValueError.__init__"))) : FnOk P w K mg base CX0 2 f fd ["self", "field"] (sp_lot K) := by
  refine F.ok sc_LotError___init__ (fun vs H Q E h => ?_) (fun cdv A outer s H vs Q E hr h => ?_)
  · obtain ⟨a, C, v, rfl, _⟩ := h
    rfl
  · obtain ⟨a, C, v, rfl, T, ha, hv, k⟩ := h
    refine ⟨_, PSs.nox (pss_one (ps_expr (pe_veinit (by rfl) mV vV (pa_cons (pv 0) (pa_cons (pe_cal S hr (pa_cons (pv 1) pa_nil)) pa_nil))))), ?_⟩
    exact ⟨_, rfl, _, rfl, v, rfl, hv, fun v' => ⟨a, C, [v'], rfl, (by show 1 ≤ 1000; decide), T, ha, k⟩⟩
/-- the class LotError as it is read for its __init__ -/
structure LotC (P : Program) (w : World) (K : PySem.W.Frag) (mg : Str → Option Value) (base : Heap) (L : Addr) : Prop where
  g : mg "LotError" = some (.ref L)
  rd : ClX.CRead K L (.type "type")
  ex : ∃ (fL : Addr) (fdL : FuncData), PySem.W.findCls K (.ref L) (.type "type") "__init__" = some (.val (.ref fL)) ∧ PySem.W.keepIn K (.ref fL) = true ∧ FnOk P w K mg base CX0 2 fL fdL ["self", "field"] (sp_lot K) ∧ Binds K fdL ["self", "field"] []
/-- an error with one field -/
structure ErrF (P : Program) (w : World) (K : PySem.W.Frag) (mg : Str → Option Value) (base : Heap) (x fld : Str) (C : Addr) : Prop where
  g : mg x = some (.ref C)
  T : OexC K C
  R : ExR K C
  nf : PySem.W.findIn K (.ref C) fld = some none
  ex : ∃ (fI : Addr) (fdI : FuncData), PySem.W.findIn K (.ref C) "__init__" = some (some (.ref fI)) ∧ PySem.W.typeIn K (.ref fI) = some (.type "function") ∧ FnOk P w K mg base CX0 3 fI fdI ["self", fld] (sp_init K fld) ∧ Binds K fdI ["self", fld] []
/-- an error without a field -/
structure Err0 (P : Program) (w : World) (K : PySem.W.Frag) (mg : Str → Option Value) (base : Heap) (x : Str) (C : Addr) : Prop where
  g : mg x = some (.ref C)
  T : OexC K C
  R : ExR K C
  ex : ∃ (fI : Addr) (fdI : FuncData), PySem.W.findIn K (.ref C) "__init__" = some (some (.ref fI)) ∧ PySem.W.typeIn K (.ref fI) = some (.type "function") ∧ FnOk P w K mg base CX0 1 fI fdI ["self"] (sp_init0 K) ∧ Binds K fdI ["self"] []
section
variable {X : Cx} {x fld : Str} {C : Addr} {e : Expr} {te : TE} {p pos kpos : Pos}
theorem pe_new (h : ErrF X.prog X.w X.K X.mg X.base x fld C) (hr : Room 4 X.A) (he : PE X e te) (hg : Gl X x := by rfl) (hdb : (x == ("__debug__" : Str)) = false := by decide)
    (hs : starEach [e] X.env = (false, eval e X.env) :: starEach [] X.env := by rfl) (hpl : (backTo pos (starEach [] X.env)).any (·.1) = false := by rfl) :
    PE X (.Call (.Name x p) [e] [] pos) (tExc C (sp_init X.K fld) [] (tCons te tNil)) := by
  obtain ⟨fI, fdI, iC, tI, F, b⟩ := h.ex
  exact pe_exc h.T iC tI F hr b .nil pass0 hg h.g (pa_cons he pa_nil hs) hdb hs hpl
theorem pe_new0 (h : Err0 X.prog X.w X.K X.mg X.base x C) (hr : Room 2 X.A) (hg : Gl X x := by rfl) (hdb : (x == ("__debug__" : Str)) = false := by decide) :
    PE X (.Call (.Name x p) [] [] pos) (tExc C (sp_init0 X.K) [] tNil) := by
  obtain ⟨fI, fdI, iC, tI, F, b⟩ := h.ex
  exact pe_exc0 h.T iC tI F hr b .nil pass0 hg h.g hdb
end
end
section
variable {P : Program} {w : World} {K : PySem.W.Frag} {mg : Str → Option Value} {base : Heap} {f : Addr} {fd : FuncData} {La : Addr}
theorem ok_Overlap (F : FnM K "Overlap.__init__" s_Overlap___init__ f fd) (L : LotC P w K mg base La) : FnOk P w K mg base CX0 3 f fd ["self", "kind"] (sp_init K "kind") := by
  obtain ⟨fL, fdL, kv, hk, FL, bL⟩ := L.ex
  refine F.ok sc_Overlap___init__ (fun vs H Q E h => ?_) (fun cdv A outer s H vs Q E hr h => ?_)
  · obtain ⟨a, C, v, rfl, _⟩ := h
    rfl
  · obtain ⟨a, C, v, rfl, T, nf, ha, hv, k⟩ := h
    refine ⟨_, PSs.nox (pss_cons (ps_expr (pe_clsfn (by rfl) L.g L.rd kv hk FL hr bL .nil pass0 (pa_cons (pv 0) (pa_cons (pv 1) pa_nil)))) (pss_one (ps_ost (pv 0) (pv 1)))), ?_⟩
    exact ⟨_, rfl, _, rfl, a, C, v, rfl, T, ha, hv, _, rfl, _, rfl, a, C, rfl, T, nf, .inl ⟨ha, fun dx hd ne => k dx hd ne⟩⟩
end
section
variable {X : Cx} {x fld : Str} {C : Addr} {e : Expr} {te : TE} {p pos kpos : Pos}
/-- raise x(e) -/
theorem pm_new (h : ErrF X.prog X.w X.K X.mg X.base x fld C) (hr : Room 4 X.A) (he : PE X e te) (hg : Gl X x := by rfl) (hdb : (x == ("__debug__" : Str)) = false := by decide)
    (hs : starEach [e] X.env = (false, eval e X.env) :: starEach [] X.env := by rfl) (hpl : (backTo pos (starEach [] X.env)).any (·.1) = false := by rfl) :
    PMk X (.Call (.Name x p) [e] [] pos) (tMkO C (sp_init X.K fld) [] (tCons te tNil)) := by
  obtain ⟨fI, fdI, iC, tI, F, b⟩ := h.ex
  exact pmk_oex h.T iC tI F hr b .nil pass0 hg h.g (pa_cons he pa_nil hs) hdb hs hpl
/-- what a raise of it comes to -/
theorem mko_of {K : PySem.W.Frag} {σ : L2.St} {H : Hp} {te : TE} {Q : XK} {v : V} {H1 : Hp} (T : OexC K C) (nf : PySem.W.findIn K (.ref C) fld = some none) (ht : ∀ R : VK, R v H1 → te σ H R) (hv : Fld H1 v)
    (k : ∀ (d : Addr) (H' : Hp), H1 d = none → (∀ c o, H1 c = some o → H' c = some o) → H' d = some (.xd [(fld, v)]) → Q (.ref C) (some d) H') : tMkO C (sp_init K fld) [] (tCons te tNil) σ H Q := by
  refine ht _ ⟨(by show 1 ≤ 1000; decide), fun a ha => ⟨a, C, v, rfl, T, nf, upd_same, ?_, fun dx hd ne => ⟨rfl, dx, [(fld, v)], upd_same, ?_, ?_, ?_⟩⟩⟩
  · exact hv.mono fun b o e _ => by rw [upd_ne (ne_of_none e ha)]; exact e
  · rw [upd_ne ne]
    exact upd_same
  · rw [upd_ne ne] at hd
    exact hd
  · have hd1 : H1 dx = none := by rw [upd_ne ne] at hd; exact hd
    refine k dx _ hd1 (fun c o e => ?_) upd_same
    have n1 := ne_of_none e ha
    have n2 := ne_of_none e hd1
    rw [upd_ne n2, del_ne n1, upd_ne n1, upd_ne n2, upd_ne n1]
    exact e
end
end Lw
/-! ## StF -/
set_option Elab.async false
set_option linter.all false
set_option maxRecDepth 100000
set_option maxHeartbeats 8000000
set_option pp.deepTerms false
set_option pp.deepTerms.threshold 3
set_option pp.maxSteps 500
namespace Sl
open PySem PySem.Spec PyProof.Rows L2 Lw
theorem union_len {A B S : NI} (n : (ks S).Nodup) (m : ∀ x, x ∈ ks S ↔ x ∈ ks A ∨ x ∈ ks B) : S.length ≤ A.length + B.length := by
  rcases Nat.lt_or_ge (A.length + B.length) S.length with h | h
  · exfalso
    obtain ⟨x, hx, hy⟩ := one_not_in (ks S) (ks A ++ ks B) n (by rw [List.length_append, ks_len, ks_len, ks_len]; exact h)
    exact hy (List.mem_append.mpr ((m x).mp hx))
  · exact h
theorem all_inr : ∀ {l : List Key}, (∀ y ∈ l, ∃ x : Str, y = Sum.inr x) → ∃ ks : List Str, l = ks.map Sum.inr
  | [], _ => ⟨[], rfl⟩
  | y :: r, h => by
    obtain ⟨x, rfl⟩ := h y List.mem_cons_self
    obtain ⟨ks, rfl⟩ := all_inr fun z hz => h z (List.mem_cons_of_mem _ hz)
    exact ⟨x :: ks, rfl⟩
theorem inr_inj : ∀ {a b : Str}, (Sum.inr a : Key) = Sum.inr b → a = b := fun h => Sum.inr.inj h
theorem nodup_inr {ks : List Str} (h : (ks.map (Sum.inr : Str → Key)).Nodup) : ks.Nodup := List.Pairwise.of_map _ (fun _ _ h e => h (congrArg _ e)) h
theorem inr_nodup {ks : List Str} (h : ks.Nodup) : (ks.map (Sum.inr : Str → Key)).Nodup := List.pairwise_map.mpr (h.imp fun h e => h (Sum.inr.inj e))
theorem mem_inr {ks : List Str} {x : Str} : (Sum.inr x : Key) ∈ ks.map Sum.inr ↔ x ∈ ks := by
  rw [List.mem_map]
  exact ⟨fun ⟨y, hy, e⟩ => Sum.inr.inj e ▸ hy, fun h => ⟨x, h, rfl⟩⟩
theorem keys_kvi2 (B : NI) : (B.map kvi).map (·.1) = (ks B).map Sum.inr := by
  unfold ks
  rw [List.map_map, List.map_map]
  rfl
theorem isSome_tkv (T : TT') (x : Str) : (valV (T.map tkv) (.inr x)).isSome = decide (x ∈ kg (ct T)) := by
  rw [valV_tkv, Option.isSome_map]
  have e : (T.find? fun t => decide (t.1 = x)).isSome = ((ct T).find? fun p => decide (p.1 = x)).isSome := by
    unfold ct
    induction T with
    | nil => rfl
    | cons p r ih =>
      by_cases h : p.1 = x
      · rw [List.map_cons, List.find?_cons_of_pos (by simpa using h), List.find?_cons_of_pos (by simpa using h)]
        rfl
      · rw [List.map_cons, List.find?_cons_of_neg (by simpa using h), List.find?_cons_of_neg (by simpa using h)]
        exact ih
  rw [e]
  have g : gl (ct T) x = none ↔ x ∉ kg (ct T) := gl_none
  unfold gl at g
  by_cases h : x ∈ kg (ct T)
  · rw [decide_eq_true h]
    cases f : (ct T).find? fun p => decide (p.1 = x) with
    | some p => rfl
    | none => exact absurd h (g.mp (by rw [f]; rfl))
  · rw [decide_eq_false h]
    have := g.mpr h
    rw [Option.map_eq_none_iff] at this
    rw [this]
    rfl
/-- the kind can't be joined -/
def badB (S S2 : CT) (A B : NI) (x : Str) : Bool := (decide (x ∈ kg S) && decide (x ∈ kg S2)) || decide (9 < get0 A x + get0 B x)
theorem get0_pos {A : NI} (n : (ks A).Nodup) (h : ∀ b ∈ A, 1 ≤ b.2) (x : Str) : 0 ≤ get0 A x ∧ (x ∈ ks A → 1 ≤ get0 A x) := by
  by_cases hx : x ∈ ks A
  · obtain ⟨q, hq, rfl⟩ := List.mem_map.mp hx
    have h1 : get0 A q.1 = q.2 := by
      unfold get0
      rw [get?_of n (show (q.1, q.2) ∈ A from hq)]
      rfl
    have := h q hq
    rw [h1]
    exact ⟨by omega, fun _ => this⟩
  · rw [get0_none hx]
    exact ⟨Int.le_refl _, fun h => absurd h hx⟩
end Sl
namespace Lw
open PySem PySem.Spec PyProof.Rows L2 Sl
section
variable {P : Program} {w : World} {K : PySem.W.Frag} {mg : Str → Option Value} {base : Heap} {f : Addr} {fd : FuncData} {C CO a0 : Addr}
structure StmF (P : Program) (w : World) (K : PySem.W.Frag) (mg : Str → Option Value) (base : Heap) (C a0 : Addr) : Prop where
  g : mg "Statement" = some (.ref C)
  T : StmC K C
  kt : KTup K a0
  ex : ∃ (fI : Addr) (fdI : FuncData), Mk K C fI ∧ FnOk P w K mg base CX0 4 fI fdI ["self", "turns", "brings"] (sp_sinit K C) ∧ Binds K fdI ["self", "turns", "brings"] [] ∧ Binds K fdI ["self", "turns", "brings"] [.ref a0]
theorem smake_k {H1 : Hp} {Q : VK} {E : XK} {a b : Addr} {T : TT'} {B : NI} (ha : PArg K H1 a (T.map tkv)) (hT : TAt H1 T) (oT : okT T) (hb : PArg K H1 b (B.map kvi)) (oB : okB B) (lT : T.length ≤ 8) (lB : B.length ≤ 8)
    (k : ∀ x H' S' B', H1 x = none → Same H1 H' → StmFr H1 H' C x S' B' → S'.Perm (ct T) → B'.Perm B → Q (.ref x) H') :
    ∀ x dx, H1 x = none → H1 dx = none → dx ≠ x → sp_sinit K C [.ref x, .ref a, .ref b] (upd (upd H1 dx (.own x)) x (.ins C dx [])) (fun v H2 => v = .non ∧ Q (.ref x) H2) E := by
  intro x dx hx hdx ne
  have s0 : Same H1 (upd (upd H1 dx (.own x)) x (.ins C dx [])) := fun c o e => by
    rw [upd_ne (ne_of_none e hx), upd_ne (ne_of_none e hdx)]
    exact e
  refine ⟨x, dx, a, b, T, B, rfl, upd_same, ha.same s0, hT.same s0, oT, hb.same s0, oB, lT, lB, fun H' S' B' kp st p1 p2 => ⟨rfl, k x H' S' B' hx (fun c o e => kp c o (ne_of_none e hx) (s0 c o e)) (st.old fun c h => free_same s0 h) p1 p2⟩⟩
section
variable {X : Cx} {e1 e2 : Expr} {t : TA} {p pos : Pos}
theorem pe_stm2 (h : StmF X.prog X.w X.K X.mg X.base C a0) (hr : Room 5 X.A) (ha : PA X [e1, e2] t) (hg : Gl X "Statement" := by rfl)
    (he : starEach [e1, e2] X.env = (false, eval e1 X.env) :: starEach [e2] X.env := by rfl) (hpl : (backTo pos (starEach [e2] X.env)).any (·.1) = false := by rfl) :
    PE X (.Call (.Name "Statement" p) [e1, e2] [] pos) (tMake C (sp_sinit X.K C) [] E0 t) := by
  obtain ⟨fI, fdI, M, F, b, _⟩ := h.ex
  exact pe_make M F hr hg h.g b .nil pass0 ha (by decide) he hpl
theorem pe_stm1 (h : StmF X.prog X.w X.K X.mg X.base C a0) (hr : Room 5 X.A) (ha : PA X [e1] t) (hg : Gl X "Statement" := by rfl)
    (he : starEach [e1] X.env = (false, eval e1 X.env) :: starEach [] X.env := by rfl) (hpl : (backTo pos (starEach [] X.env)).any (·.1) = false := by rfl) :
    PE X (.Call (.Name "Statement" p) [e1] [] pos) (tMake C (sp_sinit X.K C) [.ref a0] E0 t) := by
  obtain ⟨fI, fdI, M, F, _, b⟩ := h.ex
  exact pe_make M F hr hg h.g b (show Vals [V.ref a0] [Value.ref a0] from .cons rfl .nil) pass0 ha (by decide) he hpl
end
def sp_sor (C CO : Addr) : Sp := fun vs H Q E => ∃ (t u : Addr) (S S2 : CT) (A B : NI), vs = [.ref t, .ref u] ∧ StmAt H C t S A ∧ StmAt H C u S2 B ∧ S.length + S2.length ≤ 8 ∧ A.length + B.length ≤ 8 ∧
  (∀ (x : Str) (d : Addr) (H' : Hp), badB S S2 A B x = true → (∀ y, badB S S2 A B y = true → leS x y) → Same H H' → H' d = some (.xd [("kind", .str x)]) → E (.ref CO) (some d) H') ∧
  ((∀ y, badB S S2 A B y = false) → ∀ (r : Addr) (S' : CT) (SS B' : NI) (H' : Hp), Same H H' → StmAt H' C r S' B' → S'.Perm (S ++ S2) → B'.Perm SS → (ks SS).Nodup → (∀ x, x ∈ ks SS ↔ x ∈ ks A ∨ x ∈ ks B) → (∀ x, get0 SS x = get0 A x + get0 B x) → Q (.ref r) H')
abbrev orN : List Str := ["self", "other", "brings", "kind"]
theorem ok_sor (F : FunD K "__or__" "Statement.__or__" (defArgs s_Statement___or__) (defBody s_Statement___or__) (defScope s_Statement___or__) [] [] f fd) (G : StmF P w K mg base C a0) (S : Cal P w K mg base 1 "sums" [] sp_sums) (O : ErrF P w K mg base "Overlap" "kind" CO) (mI : mg "isinstance" = none) (mS : mg "sorted" = none) {t1 : Tok} (gM : mg "MOST_BROUGHT" = some (.int 9 t1)) :
    FnOk P w K mg base (L2.CX P w) 6 f fd ["self", "other"] (sp_sor C CO) := by
  refine F.ok sc_Statement___or__ (fun vs H Q E h => ?_) (fun cdv A outer s H vs Q E hr h => ?_)
  · obtain ⟨t, u, S, S2, A, B, rfl, _⟩ := h
    rfl
  · obtain ⟨t, u, S1, S2, A1, B1, rfl, ⟨dx, d, e, T, ⟨ht, h1, h2⟩, rfl, oS, _⟩, ⟨dy, d2, e2, T2, ⟨hu', g1, g2⟩, rfl, oS2, _⟩, lS, lA, kE, kQ⟩ := h
    have nd := sc_Statement___or__.nd
    have hu := hu_of hr
    have hr1 := hr.mono (show 1 ≤ 5 by decide)
    have hr4 := hr.mono (show 4 ≤ 5 by decide)
    have TT := G.T
    refine ⟨_, pss_cons (ps_if (pt_not (pt_val (pe_callB call_isi (by rfl) mI PyProof.Rows.Boot.«isinstance» (pa_cons (pv 1) (pa_cons (pe_glob (v := .ref C) (by rfl) G.g rfl) pa_nil))))) (pss_one ps_never) pss_nil)
      (pss_cons (ps_set (i := 2) nd rfl (.inl rfl) (pe_cal S hr1 (pa_cons (pe_fld (pv 0) rfl) (pa_cons (pe_fld (pv 1) rfl) pa_nil))))
      (pss_cons (ps_for (passes_of rfl) rfl (pi_list (pe_callB (call_sortedD rfl) (by rfl) mS (by decide +kernel) (pa_cons (pe_two (pe_fld (pv 0) rfl) (pv 2)) pa_nil))) (pg_name (i := 3) nd rfl (Or.inl rfl))
        (pss_cons (ps_if (PW.pt (pw_and (pt_cmp (pc_din hu (pv 3) (pe_fld (pv 0) rfl))) (pw_and1 (pt_cmp (pc_din hu (pv 3) (pe_fld (pv 1) rfl)))))) (pss_one (ps_raise rfl (takes_of rfl rfl rfl rfl) (pm_new O hr4 (pv 3)))) pss_nil)
        (pss_one (ps_if (pt_cmpR op_gt (pe_dget2 hu (pv 2) (pv 3) pe_int ⟨rfl, rfl, rfl, rfl⟩) (pe_glob (v := .int 9) (by rfl) gM ⟨_, rfl⟩) (nomark _)) (pss_one (ps_raise rfl (takes_of rfl rfl rfl rfl) (pm_new O hr4 (pv 3)))) pss_nil))))
      (pss_one (ps_ret (pe_stm2 G hr (pa_cons (pe_two (pe_fld (pv 0) rfl) (pe_fld (pv 1) rfl)) (pa_cons (pv 2) pa_nil))))))), ?_⟩
    have nA : (ks A1).Nodup := oS.cb.nd
    have nB : (ks B1).Nodup := oS2.cb.nd
    have lA1 := oS.lb
    have lB1 := oS2.lb
    refine ifs_of ⟨_, rfl, _, .ref C, .ref C, .ref C, true, rfl, .own C, .base (.ins hu' TT.cl TT.ca TT.sg TT.tk TT.ob), kit_self K C, _, rfl, iteF (nx_of ?_)⟩
    refine asg_of ⟨_, rfl, t, C, dx, _, .ref e, rfl, ht, TT.cl, TT.nB, rfl, _, rfl, u, C, dy, _, .ref e2, rfl, hu', TT.cl, TT.nB, rfl, e, e2, A1, B1, rfl, h2, g2, nA, nB, (by omega), (by omega), fun p1 SS H1 hp1 s1 q1 nSS mSS vSS lSS => ?_⟩
    have ht1 := s1 _ _ ht
    have hu1 := s1 _ _ hu'
    have hT1 := h1.same s1
    have hT2 := g1.same s1
    have lSS8 : SS.length ≤ 8 := Nat.le_trans (union_len nSS mSS) lA
    have lT : (ct T).length = T.length := List.length_map _
    have lT2 : (ct T2).length = T2.length := List.length_map _
    have nT : ((T.map tkv).map (·.1)).Nodup := by rw [keys_tkv]; exact inr_nodup oS.cs.nd
    have nT2 : ((T2.map tkv).map (·.1)).Nodup := by rw [keys_tkv]; exact inr_nodup oS2.cs.nd
    have m0 : mergeK [] (T.map tkv) = T.map tkv := by rw [mergeK_apart _ [] (fun k _ hm => absurd hm List.not_mem_nil) nT]; rfl
    show tSeq (tFor _ _ _) _ _ [some (V.ref t), some (V.ref u), some (V.ref p1), none] H1
    intro p hp
    have up : ∀ {H0 : Hp} {c q : Addr} {o o' : HO}, H0 c = some o → H0 q = none → (upd H0 q o') c = some o := fun {H0 c q o o'} h1 h2 => by rw [upd_ne (ne_of_none h1 h2)]; exact h1
    have nd1 : d ≠ p := fun z => by have := hT1.1; rw [z, hp] at this; cases this
    have np1 : p1 ≠ p := fun z => by rw [z, hp] at q1; cases q1
    refine ⟨_, rfl, t, C, dx, _, .ref d, rfl, up ht1 hp, TT.cl, TT.nT, rfl, d, T.map tkv, rfl, nd1, .inl (up hT1.1 hp), upd_same, (by rw [List.length_map]; omega), _, rfl, p1, SS.map kvi, rfl, np1, .inl ?_, upd_same, (by rw [List.length_map]; omega), ?_⟩
    · rw [upd_ne np1]
      exact up q1 hp
    rw [m0]
    obtain ⟨mk1, mk2, mk3⟩ := mergeK_keys (SS.map kvi) (T.map tkv) nT
    rw [List.length_map, List.length_map] at mk3
    have hin : ∀ y ∈ (mergeK (T.map tkv) (SS.map kvi)).map (·.1), ∃ x : Str, y = Sum.inr x := fun y hy => by
      rcases (mk2 y).mp hy with h | h
      · rw [keys_tkv] at h
        obtain ⟨x, _, rfl⟩ := List.mem_map.mp h
        exact ⟨x, rfl⟩
      · rw [keys_kvi2] at h
        obtain ⟨x, _, rfl⟩ := List.mem_map.mp h
        exact ⟨x, rfl⟩
    obtain ⟨zs, ez⟩ := all_inr hin
    have mz : ∀ x, x ∈ zs ↔ x ∈ kg (ct T) ∨ x ∈ ks SS := fun x => by
      rw [← mem_inr, ← ez, mk2, keys_tkv, keys_kvi2, mem_inr, mem_inr]
    have lz : zs.length < 64 := by
      have := congrArg List.length ez
      rw [List.length_map, List.length_map] at this
      omega
    have s2 : Same H1 (upd (upd (upd H1 p (.dK [])) p (.dK (T.map tkv))) p (.dK (mergeK (T.map tkv) (SS.map kvi)))) := fun c o e => by
      have n := ne_of_none e hp
      rw [upd_ne n, upd_ne n, upd_ne n]
      exact e
    refine ⟨p, _, zs, rfl, .inl upd_same, ez, lz, fun ys q pm so hq => ?_⟩
    have s3 := s2.trans (same_new (o := .lst (ys.map V.str)) hq)
    have eq : (upd (upd (upd (upd H1 p (.dK [])) p (.dK (T.map tkv))) p (.dK (mergeK (T.map tkv) (SS.map kvi)))) q (.lst (ys.map V.str))) q = some (.lst (ys.map V.str)) := upd_same
    generalize upd (upd (upd (upd H1 p (.dK [])) p (.dK (T.map tkv))) p (.dK (mergeK (T.map tkv) (SS.map kvi)))) q (.lst (ys.map V.str)) = H2 at s3 eq
    have bad_in : ∀ y, badB (ct T) (ct T2) A1 B1 y = true → y ∈ ys := fun y hy => by
      refine pm.mem_iff.mpr ((mz y).mpr ?_)
      unfold badB at hy
      rcases Bool.or_eq_true _ _ ▸ hy with h | h
      · rw [Bool.and_eq_true] at h
        exact .inl (of_decide_eq_true h.1)
      · refine .inr (Classical.byContradiction fun hn => ?_)
        have h9 := of_decide_eq_true h
        rw [← vSS, get0_none hn] at h9
        omega
    have pw := sorted_pairwise so
    refine ⟨q, rfl, ⟨_, SqL.of eq⟩, ?_⟩
    refine for_list (K := K) (a := q) (xs := ys.map V.str) (fun i σ H' => Same H2 H' ∧ (∀ y ∈ ys.take i, badB (ct T) (ct T2) A1 B1 y = false) ∧ ∃ y, σ = [some (V.ref t), some (V.ref u), some (V.ref p1), y]) ⟨fun _ _ e => e, fun y hy => absurd hy List.not_mem_nil, none, rfl⟩ (fun i σ H' _ ⟨s4, _⟩ => SqL.of (s4 _ _ eq)) ?_ ?_
    · rintro i x σ H' hx ⟨s4, hbb, y, rfl⟩
      rw [List.getElem?_map] at hx
      obtain ⟨k, hk, ex⟩ := Option.map_eq_some_iff.mp hx
      subst ex
      have s5 := s3.trans s4
      have least : badB (ct T) (ct T2) A1 B1 k = true → ∀ y, badB (ct T) (ct T2) A1 B1 y = true → leS k y := fun _ y hy => by
        obtain ⟨j, hj⟩ := List.mem_iff_getElem?.mp (bad_in y hy)
        rcases Nat.lt_or_ge j i with h | h
        · have : y ∈ ys.take i := List.mem_iff_getElem?.mpr ⟨j, by rw [List.getElem?_take, if_pos h]; exact hj⟩
          rw [hbb y this] at hy
          cases hy
        · rcases Nat.eq_or_lt_of_le h with h | h
          · subst h
            rw [hk] at hj
            rw [Option.some.inj hj]
            exact List.lt_irrefl _
          · obtain ⟨a1, a2⟩ := List.getElem?_eq_some_iff.mp hk
            obtain ⟨b1, b2⟩ := List.getElem?_eq_some_iff.mp hj
            have := List.pairwise_iff_getElem.mp pw i j a1 b1 h
            rwa [a2, b2] at this
      have raised : badB (ct T) (ct T2) A1 B1 k = true → ∀ (d0 : Addr) (H3 : Hp), (∀ c o, H' c = some o → H3 c = some o) → H3 d0 = some (.xd [("kind", .str k)]) → E (.ref CO) (some d0) H3 := fun hb d0 H3 s6 hx => kE k d0 H3 hb (least hb) (s1.trans (s5.trans s6)) hx
      have step : badB (ct T) (ct T2) A1 B1 k = false → ∀ y ∈ ys.take (i + 1), badB (ct T) (ct T2) A1 B1 y = false := fun hb y hy => by
        rw [List.take_succ, hk] at hy
        rcases List.mem_append.mp hy with h | h
        · exact hbb y h
        · have : y = k := by simpa using h
          rw [this]
          exact hb
      have b1 : (valV (T.map tkv) (.inr k)).isSome = decide (k ∈ kg (ct T)) := isSome_tkv T k
      have b2 : (valV (T2.map tkv) (.inr k)).isSome = decide (k ∈ kg (ct T2)) := isSome_tkv T2 k
      show tSeq (tIfS _ _ _) _ _ [some (V.ref t), some (V.ref u), some (V.ref p1), some (V.str k)] H'
      have mko : ∀ {H3 : Hp}, Same H' H3 → badB (ct T) (ct T2) A1 B1 k = true → tMkO CO (sp_init K "kind") [] (tCons (tVar 3) tNil) [some (V.ref t), some (V.ref u), some (V.ref p1), some (V.str k)] H3 E := fun {H3} s6 hb =>
        mko_of (v := .str k) (H1 := H3) O.T O.nf (fun R hR => ⟨_, rfl, hR⟩) (.str k) fun d0 H4 _ s7 hx => raised hb d0 H4 (s6.trans s7) hx
      refine gen_of (P := fun σ' H'' => σ' = [some (V.ref t), some (V.ref u), some (V.ref p1), some (V.str k)] ∧ Same H' H'' ∧ (decide (k ∈ kg (ct T)) && decide (k ∈ kg (ct T2))) = false) (fun V hV => ?_) (fun σ' H'' hP => ?_)
      · refine ifs_of ⟨_, rfl, _, rfl, t, C, dx, _, .ref d, rfl, s5 _ _ ht1, TT.cl, TT.nT, rfl, d, _, rfl, DGet.k (k := .inr k) (s5 _ _ hT1.1), _, rfl, ?_⟩
        rw [b1]
        refine ite_of (fun c1 => ?_) (fun c1 => nx_of (hV _ _ ⟨rfl, fun _ _ e => e, by rw [c1]; rfl⟩))
        refine ⟨_, rfl, _, rfl, u, C, dy, _, .ref d2, rfl, s5 _ _ hu1, TT.cl, TT.nT, rfl, d2, _, rfl, DGet.k (k := .inr k) (s5 _ _ hT2.1), _, rfl, ?_⟩
        rw [b2]
        refine ite_of (fun c2 => ?_) (fun c2 => nx_of (hV _ _ ⟨rfl, fun _ _ e => e, by rw [c1, c2]; rfl⟩))
        exact mko (fun _ _ e => e) (by unfold badB; rw [c1, c2]; rfl)
      · obtain ⟨rfl, s6, hf⟩ := hP
        have s7 := s5.trans s6
        have gv : (valV (SS.map kvi) (.inr k)).getD (.int 0) = .int (get0 SS k) := by
          rw [valV_kvi]
          unfold get0
          cases get? SS k <;> rfl
        refine if1_of ⟨_, rfl, p1, rfl, .inl ⟨_, .inl (s7 _ _ q1)⟩, _, rfl, valV (SS.map kvi) (.inr k), .inl ⟨SS.map kvi, .inr k, .inl (s7 _ _ q1), rfl, rfl⟩, ?_⟩
        refine ⟨get0 SS k, 9, gv, rfl, _, rfl, ite_of (fun c => ?_) (fun c => ?_)⟩
        · refine mko s6 ?_
          unfold badB
          rw [hf, ← vSS]
          exact c
        · refine ⟨s4.trans s6, step ?_, _, rfl⟩
          unfold badB
          rw [hf, ← vSS]
          exact c
    · rintro σ H' ⟨s4, hbb, y, rfl⟩
      rw [List.length_map, List.take_length] at hbb
      have s5 := s3.trans s4
      have no : ∀ y, badB (ct T) (ct T2) A1 B1 y = false := fun y => by
        cases hy : badB (ct T) (ct T2) A1 B1 y with
        | false => rfl
        | true => rw [hbb y (bad_in y hy)] at hy; cases hy
      have ap : ∀ x, x ∈ kg (ct T2) → x ∉ kg (ct T) := fun x hx hx2 => by
        have := no x
        unfold badB at this
        rw [decide_eq_true hx, decide_eq_true hx2] at this
        cases this
      have hd5 := s5 _ _ hT1.1
      have hd6 := s5 _ _ hT2.1
      have ht5 := s5 _ _ ht1
      have hu5 := s5 _ _ hu1
      intro pz hpz
      have up2 : ∀ {H0 : Hp} {c q : Addr} {o o' : HO}, H0 c = some o → H0 q = none → (upd H0 q o') c = some o := fun {H0 c q o o'} h1 h2 => by rw [upd_ne (ne_of_none h1 h2)]; exact h1
      have n1 : d ≠ pz := fun z => by rw [z, hpz] at hd5; cases hd5
      have n2 : d2 ≠ pz := fun z => by rw [z, hpz] at hd6; cases hd6
      have nu : u ≠ pz := fun z => by rw [z, hpz] at hu5; cases hu5
      refine ⟨_, rfl, t, C, dx, _, .ref d, rfl, up2 ht5 hpz, TT.cl, TT.nT, rfl, d, T.map tkv, rfl, n1, .inl (up2 hd5 hpz), upd_same, (by rw [List.length_map]; omega), ?_⟩
      refine ⟨_, rfl, u, C, dy, _, .ref d2, rfl, by rw [upd_ne nu]; exact up2 hu5 hpz, TT.cl, TT.nT, rfl, d2, T2.map tkv, rfl, n2, .inl (by rw [upd_ne n2]; exact up2 hd6 hpz), upd_same, (by rw [List.length_map]; omega), ?_⟩
      have m2 : mergeK (T.map tkv) (T2.map tkv) = (T ++ T2).map tkv := by
        rw [mergeK_apart _ _ (fun k hk hm => ?_) nT2, List.map_append]
        rw [keys_tkv] at hk hm
        obtain ⟨x, hx, rfl⟩ := List.mem_map.mp hk
        exact ap x hx (mem_inr.mp hm)
      rw [m0, m2]
      have s6 : Same H' (upd (upd (upd H' pz (.dK [])) pz (.dK (T.map tkv))) pz (.dK ((T ++ T2).map tkv))) := fun c o e => by
        have n := ne_of_none e hpz
        rw [upd_ne n, upd_ne n, upd_ne n]
        exact e
      have ez2 : (upd (upd (upd H' pz (.dK [])) pz (.dK (T.map tkv))) pz (.dK ((T ++ T2).map tkv))) pz = some (.dK ((T ++ T2).map tkv)) := upd_same
      generalize upd (upd (upd H' pz (.dK [])) pz (.dK (T.map tkv))) pz (.dK ((T ++ T2).map tkv)) = H3 at s6 ez2
      have s7 := s5.trans s6
      refine ⟨_, rfl, ?_⟩
      dsimp only [tNil]
      have oTT : okT (T ++ T2) := by
        refine ⟨?_, fun t ht => ?_, by rw [List.length_append]; omega⟩
        · rw [List.map_append, ← kg_ct, ← kg_ct]
          exact List.nodup_append.mpr ⟨oS.cs.nd, oS2.cs.nd, fun a ha b hb e => ap b hb (e ▸ ha)⟩
        · rcases List.mem_append.mp ht with h | h
          · exact (oS.ns _ (List.mem_map.mpr ⟨t, h, rfl⟩)).1
          · exact (oS2.ns _ (List.mem_map.mpr ⟨t, h, rfl⟩)).1
      have hTT : TAt H3 (T ++ T2) := fun t ht => by
        rcases List.mem_append.mp ht with h | h
        · exact ⟨.inr (s7 _ _ (hT1.2 t h).1), (oS.ns _ (List.mem_map.mpr ⟨t, h, rfl⟩)).2⟩
        · exact ⟨.inr (s7 _ _ (hT2.2 t h).1), (oS2.ns _ (List.mem_map.mpr ⟨t, h, rfl⟩)).2⟩
      have oBB : okB SS := by
        refine ⟨nSS, fun b hb => ?_, fun b hb => ?_, by omega⟩
        · rcases (mSS b.1).mp (List.mem_map.mpr ⟨b, hb, rfl⟩) with h | h
          · obtain ⟨q, hq, e⟩ := List.mem_map.mp h
            rw [← e]
            exact (oS.nb q hq).1
          · obtain ⟨q, hq, e⟩ := List.mem_map.mp h
            rw [← e]
            exact (oS2.nb q hq).1
        · have e1 : get0 SS b.1 = b.2 := by
            unfold get0
            rw [get?_of nSS (show (b.1, b.2) ∈ SS from hb)]
            rfl
          have p1 := get0_pos nA (fun b hb => (oS.nb b hb).2.1) b.1
          have p2 := get0_pos nB (fun b hb => (oS2.nb b hb).2.1) b.1
          have e2 := vSS b.1
          rw [e1] at e2
          have e3 := no b.1
          unfold badB at e3
          rw [Bool.or_eq_false_iff] at e3
          have e4 := of_decide_eq_false e3.2
          rcases (mSS b.1).mp (List.mem_map.mpr ⟨b, hb, rfl⟩) with h | h
          · have := p1.2 h
            omega
          · have := p2.2 h
            omega
      refine smake_k (.inl ez2) hTT oTT (.inl (s7 _ _ q1)) oBB (by rw [List.length_append]; omega) lSS8 fun x H4 S' B' hx s8 st p1 p2 => ?_
      refine kQ no x S' SS B' H4 (s1.trans (s7.trans s8)) st.at_ ?_ p2 nSS mSS vSS
      have : ct (T ++ T2) = ct T ++ ct T2 := List.map_append
      rw [← this]
      exact p1
end
end Lw
/-! ## LwT -/
set_option Elab.async false
set_option linter.all false
set_option maxRecDepth 100000
set_option maxHeartbeats 8000000
set_option pp.deepTerms false
set_option pp.deepTerms.threshold 3
set_option pp.maxSteps 500
namespace Sl
open PySem PySem.Spec PyProof.Rows L2 Lw
/-- an operator of two instances of C by the own def of the left one, which may raise -/
def tOwnX (C : Addr) (sp : Sp) (W : WX) (ta tb : TE) : TE := fun σ H Q => ta σ H fun x H1 => tb σ H1 fun y H2 => ∃ (a dx : Addr) (fs : List (Str × V)) (b dy : Addr) (gs : List (Str × V)), x = .ref a ∧ H2 a = some (.ins C dx fs) ∧ y = .ref b ∧ H2 b = some (.ins C dy gs) ∧ sp [.ref a, .ref b] H2 Q (WE W σ)
theorem pe_ownX {X : Cx} {C f : Addr} {k : Nat} {fd : FuncData} {ps : List Str} {sp : Sp} {W : WX} {a b : Expr} {ta tb : TE} {op : Operator} {pos : Pos} (F : FnOk X.prog X.w X.K X.mg X.base (L2.CX X.prog X.w) k f fd ps sp) (hs : PySem.W.findIn X.K (.ref C) (PySem.dunder op.info.2) = some (some (.ref f))) (hf : PySem.W.isFn X.K (.ref f) = true)
    (hc : PySem.W.selfFirst X.K C = true) (hb : Binds X.K fd ps []) (tk : Takes X W) (hr : Room k X.A) (ea : PE X a ta) (eb : PE X b tb) : PE X (.BinOp a op b pos) (tOwnX C sp W ta tb) := by
  refine ⟨fun pins s σ H Q I h => ?_⟩
  refine wpAny_BinOp (binT ea eb I h fun v u s2 x y H2 I2 rx ry q => ?_)
  obtain ⟨a, dx, fs, b, dy, gs, rfl, ha, rfl, hb', q⟩ := q
  cases (show v = Value.ref a from rx)
  cases (show u = Value.ref b from ry)
  obtain ⟨mA, J, _⟩ := ins_get I2.hok ha
  obtain ⟨od, J, _⟩ := J.look
  obtain ⟨mB, J', _⟩ := ins_get I2.hok hb'
  obtain ⟨od', J', _⟩ := J'.look
  obtain ⟨m, hF⟩ := I2.fr
  refine PySem.W.binop_K hF I2.ok.mod.kin J J'.type hc hs hf ?_
  refine wpAny_mono (run_fnS (E := WE W) F hr hb (passAt tk σ) I2 (show Vals [V.ref a, V.ref b] [Value.ref a, Value.ref b] from .cons rfl (.cons rfl .nil)) q) (fun r s' z => ?_) fun _ _ x => x
  obtain ⟨z, H', I', rz, q'⟩ := z
  have fin : EP X pins σ Q r s' := ⟨z, H', I', rz, q'⟩
  cases z with
  | non => cases (show r = Value.none from rz); exact fin
  | bl c => cases (show r = Value.bool c from rz); exact fin
  | int i => obtain ⟨t, rfl⟩ := (show ∃ t, r = Value.int i t from rz); exact fin
  | str i => obtain ⟨t, rfl⟩ := (show ∃ t, r = Value.str i t from rz); exact fin
  | byt i => obtain ⟨t, rfl⟩ := (show ∃ t, r = Value.bytes i t from rz); exact fin
  | flt i => obtain ⟨t, rfl⟩ := (show ∃ t, r = Value.float i t from rz); exact fin
  | ref i => cases (show r = Value.ref i from rz); exact fin
  | ty i => cases (show r = Value.type i from rz); exact fin
end Sl
namespace Lw
open PySem PySem.Spec PyProof.Rows L2 Sl
section
variable {P : Program} {w : World} {K : PySem.W.Frag} {mg : Str → Option Value} {base : Heap} {f : Addr} {fd : FuncData} {C CO a0 : Addr}
/-- the own | -/
structure OrF (P : Program) (w : World) (K : PySem.W.Frag) (mg : Str → Option Value) (base : Heap) (C CO : Addr) : Prop where
  sf : PySem.W.selfFirst K C = true
  ex : ∃ (f : Addr) (fd : FuncData), PySem.W.findIn K (.ref C) "__or__" = some (some (.ref f)) ∧ PySem.W.isFn K (.ref f) = true ∧ FnOk P w K mg base (L2.CX P w) 6 f fd ["self", "other"] (sp_sor C CO) ∧ Binds K fd ["self", "other"] []
/-- what two statements come to when joined -/
def Joined (C : Addr) (H : Hp) (S S2 : CT) (A B : NI) (bad : Str → Prop) (good : Addr → Hp → Prop) : Prop :=
  (∀ (x : Str), badB S S2 A B x = true → (∀ y, badB S S2 A B y = true → leS x y) → bad x) ∧
  ((∀ y, badB S S2 A B y = false) → ∀ (r : Addr) (S' : CT) (SS B' : NI) (H' : Hp), Same H H' → StmAt H' C r S' B' → S'.Perm (S ++ S2) → B'.Perm SS → (ks SS).Nodup → (∀ x, x ∈ ks SS ↔ x ∈ ks A ∨ x ∈ ks B) → (∀ x, get0 SS x = get0 A x + get0 B x) → good r H')
def sp_tried (C : Addr) : Sp := fun vs H Q _ => ∃ (t u : Addr) (S S2 : CT) (A B : NI), vs = [.ref t, .ref u] ∧ StmAt H C t S A ∧ StmAt H C u S2 B ∧ S.length + S2.length ≤ 8 ∧ A.length + B.length ≤ 8 ∧
  Joined C H S S2 A B (fun x => ∀ (q : Addr) (H' : Hp), H q = none → Same H H' → H' q = some (.tup [.str "overlap", .str x]) → Q (.ref q) H') (fun r H' => ∀ q, H' q = none → Q (.ref q) (upd H' q (.tup [.str "told", .ref r])))
abbrev trN : List Str := ["_law_one", "_law_other", "_law_found", "_law_join", "e"]
theorem ok_tried (F : FnP K "_law_tried" s_l_tried [] f fd) (O : ErrF P w K mg base "Overlap" "kind" CO) (OR : OrF P w K mg base C CO) (hex : PySem.W.exmOne K (.ref CO) (.ref CO) = some true) : FnOk P w K mg base CX0 7 f fd ["_law_one", "_law_other"] (sp_tried C) := by
  refine F.ok sc_l_tried (fun vs H Q E h => ?_) (fun cdv A outer s H vs Q E hr h => ?_)
  · obtain ⟨t, u, S, S2, A, B, rfl, _⟩ := h
    rfl
  · obtain ⟨t, u, S1, S2, A1, B1, rfl, st1, st2, lS, lA, kB, kG⟩ := h
    have nd := sc_l_tried.nd
    obtain ⟨fo, fdo, o1, o2, o3, o4⟩ := OR.ex
    have xf : XfC K CO := ⟨O.R.ga, O.R.gg, O.T.exC, O.R.hd⟩
    refine ⟨_, pss_cons (ps_set (i := 2) nd rfl (.inl rfl) (pe_tup (pa_cons pe_str (pa_cons pe_int pa_nil))))
      (pss_cons (ps_try_as (i := 4) rfl rfl nd rfl rfl ⟨rfl, by decide, .inl O.g⟩ takes0
          (fun W pn xe tk _ => pss_cons (ps_set (i := 3) nd rfl (.inl rfl) (pe_ownX o3 o1 o2 OR.sf o4 tk hr (pv 0) (pv 1))) (pss_one (ps_set (i := 2) nd rfl (.inl rfl) (pe_tup (pa_cons pe_str (pa_cons (pv 3) pa_nil))))))
          (fun a oe cls d pn hz hf => pss_one (ps_set (i := 2) nd rfl (.inl rfl) (pe_tup (pa_cons pe_str (pa_cons (pe_xf xf O.nf hz hf (pv 4)) pa_nil))))))
      (pss_one (ps_ret (pv 2)))), ?_⟩
    refine asg_of ⟨(by show 2 ≤ sizeLine; decide), fun p0 hp0 => ?_⟩
    have s0 : Same H (upd H p0 (.tup [.str "none", .int 0])) := same_new hp0
    obtain ⟨dx, d, e, T, ⟨ht, _⟩, _⟩ := id (st1.same s0)
    obtain ⟨dy, d2, e2, T2, ⟨hu', _⟩, _⟩ := id (st2.same s0)
    refine asg_of ⟨_, rfl, _, rfl, t, dx, _, u, dy, _, rfl, ht, rfl, hu', ?_⟩
    refine ⟨t, u, S1, S2, A1, B1, rfl, st1.same s0, st2.same s0, lS, lA, fun x dd H' hb hl s1 hx => ?_, fun no r S' SS B' H' s1 st p1 p2 n1 n2 n3 => ?_⟩
    · refine ⟨true, hex, fun _ a ha => ?_, fun z => nomatch z⟩
      refine ⟨_, rfl, rfl, rfl, dd, _, _, rfl, hx, rfl, (by show 2 ≤ sizeLine; decide), fun q hq => ?_⟩
      exact ⟨_, rfl, kB x hb hl q _ (free_same (s0.trans s1) hq) (s0.trans (s1.trans (same_new hq))) upd_same⟩
    · refine ⟨_, rfl, (by show 2 ≤ sizeLine; decide), fun q hq => ?_⟩
      exact ⟨_, rfl, kG no r S' SS B' H' (s0.trans s1) st p1 p2 n1 n2 n3 q hq⟩
end
end Lw
/-! ## LwP -/
set_option Elab.async false
set_option linter.all false
set_option maxRecDepth 100000
set_option maxHeartbeats 8000000
set_option pp.deepTerms false
set_option pp.deepTerms.threshold 3
set_option pp.maxSteps 500
namespace Sl
open PySem PySem.Spec PyProof.Rows L2 Lw
def rDP (K : PySem.W.Frag) : List V → Hp → VK → Prop := fun xs H Q => ∃ (a : Addr) (ps : List Addr) (kvs : List (Key × V)), xs = [.ref a] ∧ SqL K H a (ps.map V.ref) ∧ Paired (fun p kv => SqT K H p [kV kv.1, kv.2]) ps kvs ∧ ∀ p, H p = none → Q (.ref p) (upd H p (.dK (mergeK [] kvs)))
theorem paired_imp {α β : Type} {R S : α → β → Prop} (h : ∀ a b, R a b → S a b) : ∀ {xs : List α} {ys : List β}, Paired R xs ys → Paired S xs ys
  | _, _, .nil => .nil
  | _, _, .cons r t => .cons (h _ _ r) (paired_imp h t)
theorem paired_map2 {α β γ : Type} {R : α → γ → Prop} {f : β → γ} : ∀ {xs : List α} {ys : List β}, Paired (fun x y => R x (f y)) xs ys → Paired R xs (ys.map f)
  | _, _, .nil => .nil
  | _, _, .cons r t => .cons r (paired_map2 t)
theorem paired_snoc {α β : Type} {R : α → β → Prop} {x : α} {y : β} (h : R x y) : ∀ {xs : List α} {ys : List β}, Paired R xs ys → Paired R (xs ++ [x]) (ys ++ [y])
  | _, _, .nil => .cons h .nil
  | _, _, .cons r t => .cons r (paired_snoc h t)
/-- the pairs (x, a new list or tuple of ws x), x by x -/
theorem trp_of {J : It} {n : Nat} {G : Hp → Prop} {Y : Nat → Hp → V → Hp → Prop} (w : Walk J n G Y) {ys : List Str} {ws : Str → List Str} {mk : List V → HO} {m : Nat} {tv : TE} {σ : L2.St} {H1 : Hp} {D : Addr} {Qd : Hp → Prop} (hn : n = ys.length) (hm : m < σ.length) (hl : ys.length ≤ 1000) (ny : ys.Nodup) (hD : H1 D = none)
    (hG : ∀ H', Same H1 H' → G H') (hY : ∀ i H x H', Y i H x H' → H' = H ∧ ∃ z, ys[i]? = some z ∧ x = .str z)
    (hv : ∀ x ∈ ys, ∀ (H' : Hp) (Q' : VK), Same H1 H' → (∀ (v : Addr) (H'' : Hp), H' v = none → Same H' H'' → H'' v = some (mk ((ws x).map V.str)) → Q' (.ref v) H'') → tv ((wipe σ [m]).set m (some (.str x))) H' Q')
    (k : ∀ (T : TT') (ts : List Addr) (H' : Hp), Same H1 H' → H' D = some (.lst (ts.map V.ref)) → Paired (fun (t : Addr) (u : Str × Addr × List Str) => H' t = some (.tup [.str u.1, .ref u.2.1])) ts T → T.map (·.1) = ys → (∀ u ∈ T, u.2.2 = ws u.1 ∧ H' u.2.1 = some (mk (u.2.2.map V.str)) ∧ H1 u.2.1 = none) → (T.map (·.2.1)).Nodup → Qd H') :
    ∃ W : Nat → Nat → Hp → Prop, (∃ m, W 0 m (upd H1 D (.lst []))) ∧ ∀ i m' H, W i m' H → (J.stop i H ∧ Qd H) ∨ (J.go i H ∧ ∃ Nx : Hp → Prop, (∀ H', Nx H' → ∃ m'', m'' < m' ∧ W (i + 1) m'' H') ∧ ∀ x H', J.yld i H x H' → gName m x (wipe σ [m]) H' fun σ2 H2 => wipe σ2 [m] = wipe σ [m] ∧ tYes σ2 H2 fun c H3 =>
        if c = true then tTup (tCons (tVar m) (tCons tv tNil)) σ2 H3 fun y H4 => ∃ acc, H4 D = some (.lst acc) ∧ acc.length < sizeLine ∧ Nx (upd H4 D (.lst (acc ++ [y]))) else Nx H3) := by
  refine lc_it w (fun i H' => Same H1 H' ∧ ∃ (T : TT') (ts : List Addr), H' D = some (.lst (ts.map V.ref)) ∧ Paired (fun (t : Addr) (u : Str × Addr × List Str) => H' t = some (.tup [.str u.1, .ref u.2.1])) ts T ∧ T.map (·.1) = ys.take i ∧ (∀ u ∈ T, u.2.2 = ws u.1 ∧ H' u.2.1 = some (mk (u.2.2.map V.str)) ∧ H1 u.2.1 = none ∧ u.2.1 ≠ D) ∧ (T.map (·.2.1)).Nodup)
    ⟨same_new hD, [], [], upd_same, .nil, rfl, fun _ h => absurd h List.not_mem_nil, List.nodup_nil⟩ (fun i H' _ ⟨s, _⟩ => hG H' s) ?_ ?_
  · rintro i x Ha Hb hi ⟨s, T, ts, hd, hP, hk, hu, nu⟩ hy
    obtain ⟨e, z, hz, rfl⟩ := hY _ _ _ _ hy
    subst e
    have wm : m < (wipe σ [m]).length := by rw [wipe_length]; exact hm
    refine ⟨?_, yes_of (iteT ⟨.str z, by rw [List.getElem?_set_self wm], ?_⟩)⟩
    · show ((σ.set m none).set m (some (V.str z))).set m none = σ.set m none
      rw [List.set_set, List.set_set]
    refine hv z (List.mem_of_getElem? hz) _ _ s fun v H'' hv0 s2 hv1 => ⟨(by show 2 ≤ sizeLine; decide), fun t ht => ?_⟩
    have hd2 := s2 _ _ hd
    have lT : T.length = i := by
      have e1 : (T.map (·.1)).length = T.length := List.length_map _
      rw [← e1, hk, List.length_take]
      omega
    have lts : ts.length = T.length := hP.length
    have nt : D ≠ t := ne_of_none hd2 ht
    have ok : ∀ c o, H'' c = some o → c ≠ D → (upd (upd H'' t (.tup [.str z, .ref v])) D (.lst (ts.map V.ref ++ [.ref t]))) c = some o := fun c o e n => by
      rw [upd_ne n, upd_ne (ne_of_none e ht)]
      exact e
    have kindD : ∀ {c : Addr} {xs : List V}, H'' c = some (.tup xs) → c ≠ D := fun {c xs} e z => by rw [z, hd2] at e; cases e
    have nD1 : ∀ {c : Addr}, H1 c = none → c ≠ D ∨ c = D := fun {c} _ => by
      by_cases h : c = D
      · exact .inr h
      · exact .inl h
    have vD : v ≠ D := fun z => by rw [z, hd] at hv0; cases hv0
    refine ⟨_, by rw [upd_ne nt]; exact hd2, ?_, fun c o e => ?_, T ++ [(z, v, ws z)], ts ++ [t], ?_, ?_, ?_, ?_, ?_⟩
    · rw [List.length_map, sizeLine_eq]
      omega
    · exact ok _ _ (s2 _ _ (s _ _ e)) (ne_of_none e hD)
    · rw [upd_same, List.map_append]
      rfl
    · refine paired_snoc ?_ (paired_imp (fun t' u' h => ok _ _ (s2 _ _ h) (kindD (s2 _ _ h))) hP)
      rw [upd_ne nt.symm]
      exact upd_same
    · rw [List.map_append, hk, List.take_succ, hz]
      rfl
    · intro u hu2
      rcases List.mem_append.mp hu2 with h | h
      · obtain ⟨a1, a2, a3, nD⟩ := hu u h
        exact ⟨a1, ok _ _ (s2 _ _ a2) nD, a3, nD⟩
      · rw [List.mem_singleton.mp h]
        exact ⟨rfl, ok _ _ hv1 vD, free_same s hv0, vD⟩
    · rw [List.map_append]
      refine List.nodup_append.mpr ⟨nu, by simp, fun a ha b hb e => ?_⟩
      obtain ⟨u, h, rfl⟩ := List.mem_map.mp ha
      have : b = v := by simpa using hb
      rw [← e] at this
      have h2 := (hu u h).2.1
      rw [this, hv0] at h2
      cases h2
  · rintro H' ⟨s, T, ts, hd, hP, hk, hu, nu⟩
    rw [hn, List.take_length] at hk
    exact k T ts H' s hd hP hk (fun u h => ⟨(hu u h).1, (hu u h).2.1, (hu u h).2.2.1⟩) nu
/-- dict(pairs) of these -/
theorem dpt_of {K : PySem.W.Frag} {H' : Hp} {l : Addr} {ts : List Addr} {T : TT'} {Q : VK} (hl : H' l = some (.lst (ts.map V.ref))) (hP : Paired (fun (t : Addr) (u : Str × Addr × List Str) => H' t = some (.tup [.str u.1, .ref u.2.1])) ts T) (n : (T.map (·.1)).Nodup) (k : ∀ p, H' p = none → Q (.ref p) (upd H' p (.dK (T.map tkv)))) : rDP K [.ref l] H' Q := by
  refine ⟨l, ts, T.map tkv, rfl, SqL.of hl, paired_map2 (paired_imp (fun t u h => SqT.of h) hP), fun p hp => ?_⟩
  have : mergeK [] (T.map tkv) = T.map tkv := by
    rw [mergeK_apart _ [] (fun k _ hm => absurd hm List.not_mem_nil) (by rw [keys_tkv, kg_ct]; exact inr_nodup n)]
    rfl
  rw [this]
  exact k p hp
theorem dpi_of {K : PySem.W.Frag} {H' : Hp} {l : Addr} {ts : List Addr} {B : NI} {Q : VK} (hl : H' l = some (.lst (ts.map V.ref))) (hP : Paired (fun (t : Addr) (u : Str × Int) => H' t = some (.tup [.str u.1, .int u.2])) ts B) (n : (ks B).Nodup) (k : ∀ p, H' p = none → Q (.ref p) (upd H' p (dI B))) : rDP K [.ref l] H' Q := by
  refine ⟨l, ts, B.map kvi, rfl, SqL.of hl, paired_map2 (paired_imp (fun t u h => SqT.of h) hP), fun p hp => ?_⟩
  rw [mergeK_nil n]
  exact k p hp
theorem ct_of {T T0 : TT'} {ws : Str → List Str} (hk : T.map (·.1) = T0.map (·.1)) (h : ∀ u ∈ T, u.2.2 = ws u.1) (h0 : ∀ u ∈ T0, u.2.2 = ws u.1) : ct T = ct T0 := by
  have e1 : ct T = (T.map (·.1)).map fun x => (x, ws x) := by
    unfold ct
    rw [List.map_map]
    exact List.map_congr_left fun u hu => by rw [h u hu]; rfl
  have e2 : ct T0 = (T0.map (·.1)).map fun x => (x, ws x) := by
    unfold ct
    rw [List.map_map]
    exact List.map_congr_left fun u hu => by rw [h0 u hu]; rfl
  rw [e1, e2, hk]
/-- what a name has in turns -/
def wsOf (T : TT') (x : Str) : List Str := (gl (ct T) x).getD []
theorem wsOf_mem {T : TT'} (n : (T.map (·.1)).Nodup) {u : Str × Addr × List Str} (h : u ∈ T) : wsOf T u.1 = u.2.2 := by
  unfold wsOf
  have e : gl (ct T) u.1 = some u.2.2 := gl_of (by rw [kg_ct]; exact n) (List.mem_map.mpr ⟨u, h, rfl⟩)
  rw [e]
  rfl
theorem keys_Y {T : TT'} (i : Nat) (H : Hp) (x : V) (H' : Hp) (h : H' = H ∧ ∃ k v, (T.map tkv)[i]? = some (k, v) ∧ x = kV k) : H' = H ∧ ∃ z, (T.map (·.1))[i]? = some z ∧ x = .str z := by
  obtain ⟨e, k, v, hk, ex⟩ := h
  rw [List.getElem?_map] at hk
  obtain ⟨u, hu, eu⟩ := Option.map_eq_some_iff.mp hk
  have : k = .inr u.1 := (congrArg Prod.fst eu).symm
  subst this
  exact ⟨e, u.1, by rw [List.getElem?_map, hu]; rfl, ex⟩
theorem val_tkv {T : TT'} (n : (T.map (·.1)).Nodup) {x : Str} (hx : x ∈ T.map (·.1)) : ∃ u ∈ T, u.1 = x ∧ valV (T.map tkv) (.inr x) = some (.ref u.2.1) ∧ wsOf T x = u.2.2 := by
  obtain ⟨u, hu, rfl⟩ := List.mem_map.mp hx
  refine ⟨u, hu, rfl, ?_, wsOf_mem n hu⟩
  rw [valV_tkv]
  have : T.find? (fun t => decide (t.1 = u.1)) = some u := by
    induction T with
    | nil => cases hu
    | cons p r ih =>
      obtain ⟨n1, n2⟩ := List.nodup_cons.mp (show (p.1 :: r.map (·.1)).Nodup from n)
      rcases List.mem_cons.mp hu with e | h
      · subst e
        rw [List.find?_cons_of_pos (by simp)]
      · have ne : p.1 ≠ u.1 := fun e => n1 (e ▸ List.mem_map.mpr ⟨u, h, rfl⟩)
        rw [List.find?_cons_of_neg (by simpa using ne)]
        exact ih n2 h (List.mem_map.mpr ⟨u, h, rfl⟩)
  rw [this]
  rfl
end Sl
namespace Lw
open PySem PySem.Spec PyProof.Rows L2 Sl
section
variable {P : Program} {w : World} {K : PySem.W.Frag} {mg : Str → Option Value} {base : Heap} {f : Addr} {fd : FuncData} {C CO a0 : Addr}
/-- a told statement -/
structure PlanAt (H : Hp) (q d e : Addr) (T : TT') (B : NI) : Prop where
  t : H q = some (.tup [.ref d, .ref e])
  d : TurnsAt H d T
  e : H e = some (dI B)
theorem PlanAt.same {H H' : Hp} {q d e : Addr} {T : TT'} {B : NI} (h : PlanAt H q d e T B) (k : Same H H') : PlanAt H' q d e T B := ⟨k _ _ h.t, ⟨k _ _ h.d.1, fun u hu => k _ _ (h.d.2 u hu)⟩, k _ _ h.e⟩
def sp_due : Sp := fun vs H Q _ => ∃ (q d e : Addr) (T : TT') (B : NI), vs = [.ref q] ∧ PlanAt H q d e T B ∧ (T.map (·.1)).Nodup ∧ T.length ≤ 60 ∧ (∀ u ∈ T, ∀ z ∈ u.2.2, nameB z = true) ∧
  ∀ (l a c : Addr) (T' : TT') (H' : Hp), H l = none → H a = none → H c = none → Same H H' → H' l = some (.lst [.ref a, .ref c]) → TupsAt H' a T' → ct T' = ct T → H' c = some (dI B) → Q (.ref l) H'
abbrev duN : List Str := ["_law_plan_here", "_law_turns", "_law_brings", "_law_kind"]
theorem ok_due (F : FnP K "_law_due" s_l_due [] f fd) (mD : mg "dict" = none) (mT : mg "tuple" = none) : FnOk P w K mg base CX0 1 f fd ["_law_plan_here"] sp_due := by
  refine F.ok sc_l_due (fun vs H Q E h => ?_) (fun cdv A outer s H vs Q E hr h => ?_)
  · obtain ⟨q, d, e, T, B, rfl, _⟩ := h
    rfl
  · obtain ⟨q, d, e, T, B, rfl, ⟨hq, ⟨hd, hl⟩, he⟩, nT, lT, nz, k⟩ := h
    have nd := sc_l_due.nd
    have hu := hu_of hr
    refine ⟨_, PSs.nox (pss_cons (ps_asg (pv 0) (pg_tup rfl (pgs_cons (pg_name (i := 1) nd rfl (Or.inr rfl)) (pgs_cons (pg_name (i := 2) nd rfl (Or.inl rfl)) pgs_nil))) (by rfl))
      (pss_one (ps_ret (pe_lst (pa_cons (pe_callTy (r := rDP K) (call_dictP rfl) (by rfl) mD PyProof.Rows.Boot.«dict» (pa_cons (pe_lock (pe_lc (own := [("_law_kind", 3)]) (g := gName 3) (tt := tYes) (te := tTup (tCons (tVar 3) (tCons (tCB (rTO K) (tCons (tDGet (tVar 1) (tVar 3)) tNil)) tNil))) rfl nd (pi_keys (pv 1)) (blkOk_by (N := duN) (sc := defScope s_l_due) (by decide +kernel))
          (fun _ _ _ _ _ => pg_name (i := 3) nd rfl (Or.inl rfl)) (fun _ _ _ _ _ => pts_nil) (fun _ _ _ _ _ => pe_tup (pa_cons (pv 3) (pa_cons (pe_callTy (r := rTO K) call_tuple_of (by rfl) mT (by decide +kernel) (pa_cons (pe_dget hu (pv 1) (pv 3) (fun _ _ => rfl)) pa_nil)) pa_nil))))) pa_nil))
        (pa_cons (pe_callTy call_dictD (by rfl) mD PyProof.Rows.Boot.«dict» (pa_cons (pv 2) pa_nil)) pa_nil)))))), ?_⟩
    show tSeq (tAsg _ _) _ _ [some (V.ref q), none, none, none] H
    refine ⟨_, rfl, q, _, rfl, SqT.of hq, rfl, _, _, rfl, _, _, rfl, rfl, ?_⟩
    refine nxs_of ?_
    refine ⟨d, .dK (T.map tkv), hd, True.intro, fun od => ?_⟩
    have el : (upd H d (.frz od (.dK (T.map tkv)))) d = some (.frz od (.dK (T.map tkv))) := upd_same
    have eT : ∀ u ∈ T, (upd H d (.frz od (.dK (T.map tkv)))) u.2.1 = some (.lst (u.2.2.map V.str)) := fun u hu => lock_ne hd (hl u hu) (fun z => by have := hl u hu; rw [z, hd] at this; cases this)
    refine ⟨_, rfl, d, od, rfl, .inl ⟨T.map tkv, el, fun D hD => ?_⟩⟩
    have lk : (T.map tkv).length = (T.map (·.1)).length := by rw [List.length_map, List.length_map]
    refine trp_of (walk_keys (o := od) (d := d) (kvs := T.map tkv)) (ys := T.map (·.1)) (ws := wsOf T) (mk := HO.tup) lk (by show 3 < 4; decide) (by rw [List.length_map]; omega) nT hD (fun H' s => s _ _ el) keys_Y (fun x hx H' Q' s hk => ?_) fun T1 ts H1 s hD1 hP hk1 hu1 nu => ?_
    · obtain ⟨u, hum, rfl, hval, hws⟩ := val_tkv nT hx
      have hg : DGet H' d (.str u.1) (some (.ref u.2.1)) := .inl ⟨T.map tkv, .inr u.1, .inr ⟨od, s _ _ el⟩, rfl, hval.symm⟩
      refine ⟨_, rfl, _, rfl, d, _, rfl, hg, u.2.1, u.2.2.map V.str, rfl, .inl ⟨SqL.of (s _ _ (eT u hum)), fun v hv => ?_⟩⟩
      exact hk v _ hv (same_new hv) (by rw [hws]; exact upd_same)
    · refine ⟨s _ _ el, ?_⟩
      have s1 := unlock_same hd s
      have nDd : D ≠ d := fun z => by rw [z, el] at hD; cases hD
      have f1 : (upd H1 d (.dK (T.map tkv))) D = some (.lst (ts.map V.ref)) := by rw [upd_ne nDd]; exact hD1
      have np : ∀ {c : Addr} {xs : List V}, H1 c = some (.tup xs) → (upd H1 d (.dK (T.map tkv))) c = some (.tup xs) := fun {c xs} e => by
        have : c ≠ d := fun z => by rw [z, s _ _ el] at e; cases e
        rw [upd_ne this]
        exact e
      have f2 : Paired (fun (t : Addr) (u : Str × Addr × List Str) => (upd H1 d (.dK (T.map tkv))) t = some (.tup [.str u.1, .ref u.2.1])) ts T1 := paired_imp (fun t u h => np h) hP
      have f3 : ∀ u ∈ T1, (upd H1 d (.dK (T.map tkv))) u.2.1 = some (.tup (u.2.2.map V.str)) := fun u h => np (hu1 u h).2.1
      generalize upd H1 d (.dK (T.map tkv)) = H2 at s1 f1 f2 f3
      have e1 : T1.map (·.1) = T.map (·.1) := hk1
      dsimp only [tNil]
      refine dpt_of f1 f2 (by rw [e1]; exact nT) fun p hp => ?_
      have ec : ct T1 = ct T := ct_of e1 (fun u h => (hu1 u h).1) (fun u h => (wsOf_mem nT h).symm)
      have s2 := s1.trans (same_new (o := .dK (T1.map tkv)) hp)
      refine ⟨_, rfl, e, _, rfl, .inl (s2 _ _ he), fun c hc => ?_⟩
      refine ⟨(by show 2 ≤ sizeLine; decide), fun l hl' => ?_⟩
      have s3 := s2.trans (same_new (o := .dK (B.map kvi)) hc)
      have s4 := s3.trans (same_new (o := .lst [.ref p, .ref c]) hl')
      have hp0 : H p = none := free_same s1 hp
      have hc0 : H c = none := free_same s2 hc
      have npc : p ≠ c := fun z => by rw [← z, upd_same] at hc; cases hc
      have npl : p ≠ l := fun z => by rw [← z, upd_ne npc, upd_same] at hl'; cases hl'
      have ncl : c ≠ l := fun z => by rw [← z, upd_same] at hl'; cases hl'
      refine k l p c T1 _ (free_same s3 hl') hp0 hc0 s4 upd_same ⟨?_, fun u h => ⟨?_, fun z hz => ?_⟩⟩ ec ?_
      · rw [upd_ne npl, upd_ne npc]
        exact upd_same
      · have a1 := f3 u h
        have q1 : u.2.1 ≠ p := fun z => by rw [z, hp] at a1; cases a1
        have q2 : u.2.1 ≠ c := fun z => by rw [← z, upd_ne q1, a1] at hc; cases hc
        have q3 : u.2.1 ≠ l := fun z => by rw [← z, upd_ne q2, upd_ne q1, a1] at hl'; cases hl'
        rw [upd_ne q3, upd_ne q2, upd_ne q1]
        exact a1
      · have hm : u.1 ∈ T.map (·.1) := by rw [← e1]; exact List.mem_map.mpr ⟨u, h, rfl⟩
        obtain ⟨u0, h0, e0, _, w0⟩ := val_tkv nT hm
        rw [(hu1 u h).1, w0] at hz
        exact nz u0 h0 z hz
      · rw [upd_ne ncl]
        exact upd_same
end
end Lw
/-! ## LwR -/
set_option Elab.async false
set_option linter.all false
set_option maxRecDepth 100000
set_option maxHeartbeats 8000000
set_option pp.deepTerms false
set_option pp.deepTerms.threshold 3
set_option pp.maxSteps 500
namespace Sl
open PySem PySem.Spec PyProof.Rows L2 Lw
def rLO (K : PySem.W.Frag) : List V → Hp → VK → Prop := fun xs H Q => ∃ p ys, xs = [.ref p] ∧ (SqL K H p ys ∨ SqT K H p ys) ∧ ∀ l, H l = none → Q (.ref l) (upd H l (.lst ys))
theorem eqV_strs {K : PySem.W.Frag} {H : Hp} (n : Nat) : ∀ xs : List Str, Paired (EqV K H (n + 1)) (xs.map V.str) (xs.map V.str)
  | [] => .nil
  | x :: r => .cons (.inl ⟨rfl, rfl⟩) (eqV_strs n r)
theorem eqL_strs {K : PySem.W.Frag} {H : Hp} {a b : Addr} {xs : List Str} {Q : VK} (ha : SqL K H a (xs.map V.str)) (hb : SqL K H b (xs.map V.str)) (q : Q (.bl true) H) : rEqV K (.ref a) (.ref b) H Q := ⟨1, by decide, .inl ⟨a, b, _, _, rfl, rfl, ha, hb, eqV_strs 0 xs⟩, q⟩
theorem sorted_kg {α : Type} {S : NG α} {ys : List Str} (cs : Cg S) (pm : ys.Perm (kg S)) (so : sortedS ys = true) : ys = kg S := perm_unique leS_anti pm (sorted_pairwise so) cs.so
theorem tame_strs : ∀ xs : List Str, ((xs.map V.str).all tame) = true
  | [] => rfl
  | x :: r => by rw [List.map_cons, List.all_cons, tame_strs r]; rfl
theorem flat_perm {S T : CT} (h : S.Perm T) (x : Str) : x ∈ flatT S ↔ x ∈ flatT T := by
  unfold flatT
  rw [List.mem_flatMap, List.mem_flatMap]
  exact ⟨fun ⟨p, hp, q⟩ => ⟨p, h.mem_iff.mp hp, q⟩, fun ⟨p, hp, q⟩ => ⟨p, h.mem_iff.mpr hp, q⟩⟩
end Sl
namespace Lw
open PySem PySem.Spec PyProof.Rows L2 Sl
section
variable {P : Program} {w : World} {K : PySem.W.Frag} {mg : Str → Option Value} {base : Heap} {f : Addr} {fd : FuncData} {C CO a0 : Addr}
def sp_rowstext : Sp := fun vs H Q _ => ∃ (q d e : Addr) (T : TT') (B0 : NI) (S : CT) (B : NI), vs = [.ref q] ∧ PlanAt H q d e T B0 ∧ SOk S B ∧ S.Perm (ct T) ∧ B.Perm B0 ∧ ∀ H', Same H H' → Q (.str (txt S B)) H'
abbrev rtN : List Str := ["_law_plan_here", "_law_turns", "_law_brings", "_law_parts", "_law_kind"]
abbrev teRT (K : PySem.W.Frag) : TE := tOp rCat2 (tOp rCat2 (tVar 4) (tC (.str ">"))) (tM1 (rJn K) (tC (.str " ")) (tDGet (tVar 1) (tVar 4)))
abbrev teRB : TE := tOp rCat2 (tOp rCat2 (tOp rCat2 (tC (.str "+")) (tVar 4)) (tC (.str " "))) (tCB rStrI (tCons (tDGet (tVar 2) (tVar 4)) tNil))
theorem ok_rowstext (F : FnP K "_law_rows_text" s_l_rows_text [] f fd) (mS : mg "sorted" = none) (mT : mg "str" = none) : FnOk P w K mg base CX0 1 f fd ["_law_plan_here"] sp_rowstext := by
  refine F.ok sc_l_rows_text (fun vs H Q E h => ?_) (fun cdv A outer s H vs Q E hr h => ?_)
  · obtain ⟨q, d, e, T, B0, S, B, rfl, _⟩ := h
    rfl
  · obtain ⟨q, d, e, T, B0, S, B, rfl, ⟨hq, ⟨hd, hl⟩, he⟩, oS, pS, pB, k⟩ := h
    have nd := sc_l_rows_text.nd
    have hu := hu_of hr
    have hu0 := hr.units0
    refine ⟨_, PSs.nox (pss_cons (ps_asg (pv 0) (pg_tup rfl (pgs_cons (pg_name (i := 1) nd rfl (Or.inr rfl)) (pgs_cons (pg_name (i := 2) nd rfl (Or.inr rfl)) pgs_nil))) (by rfl))
      (pss_cons (ps_setLc (i := 3) (own := [("_law_kind", 4)]) (g := gName 4) (tt := tYes) (te := teRT K) rfl nd rfl rfl (sw_true rfl rfl rfl (by decide +kernel)) (pi_list (pe_callB (call_sortedD rfl) (by rfl) mS (by decide +kernel) (pa_cons (pv 1) pa_nil))) (blkOk_by (N := rtN) (sc := defScope s_l_rows_text) (by decide +kernel))
        (fun _ _ _ _ _ => pg_name (i := 4) nd rfl (Or.inl rfl)) (fun _ _ _ _ _ => pts_nil) (fun _ _ _ _ _ => pe_op op_cat2 (pe_op op_cat2 (pv 4) pe_str) (pe_jn pe_str (pe_dget hu (pv 1) (pv 4) (fun _ _ => rfl)))))
      (pss_cons (ps_expr (pe_bm PySem.F.plainAttrs_list PySem.F.slot_list_extend PySem.F.type_list_extend mt_extend (pv 3) (pa_cons (pe_lc (own := [("_law_kind", 4)]) (g := gName 4) (tt := tYes) (te := teRB) rfl nd (pi_list (pe_callB (call_sortedD rfl) (by rfl) mS (by decide +kernel) (pa_cons (pv 2) pa_nil))) (blkOk_by (N := rtN) (sc := defScope s_l_rows_text) (by decide +kernel))
        (fun _ _ _ _ _ => pg_name (i := 4) nd rfl (Or.inl rfl)) (fun _ _ _ _ _ => pts_nil) (fun _ _ _ _ _ => pe_op op_cat2 (pe_op op_cat2 (pe_op op_cat2 pe_str (pv 4)) pe_str) (pe_callTy (r := rStrI) cr_strI (by rfl) mT PyProof.Rows.Boot.«str» (pa_cons (pe_dget hu (pv 2) (pv 4) (fun _ _ => rfl)) pa_nil)))) pa_nil)))
      (pss_one (ps_ret (pe_ifExp (pt_cmpR (op_neNil hu0) (pv 3) (pe_lst pa_nil) (nomark _)) (pe_jn pe_str (pv 3)) pe_str)))))), ?_⟩
    have pk : (T.map (·.1)).Perm (kg S) := by rw [← kg_ct]; exact (kg_perm pS).symm
    have nT : (T.map (·.1)).Nodup := pk.nodup_iff.mpr oS.cs.nd
    have lT : T.length = S.length := by
      have := pS.length_eq
      have h5 : (ct T).length = T.length := List.length_map _
      omega
    have lS8 := oS.ls
    have lB8 := oS.lb
    have lB0 := pB.length_eq
    have nB0 : (ks B0).Nodup := (ks_perm pB).nodup_iff.mp oS.cb.nd
    show tSeq (tAsg _ _) _ _ [some (V.ref q), none, none, none, none] H
    refine ⟨_, rfl, q, _, rfl, SqT.of hq, rfl, _, _, rfl, _, _, rfl, rfl, ?_⟩
    refine nxs_of (asg_of ⟨_, rfl, d, T.map tkv, T.map (·.1), rfl, .inl hd, ?_, (by rw [List.length_map]; omega), fun ys p pm so hp => ?_⟩)
    · rw [keys_tkv, kg_ct]
    have ey := sorted_kg oS.cs (pm.trans pk) so
    subst ey
    refine ⟨p, rfl, ⟨_, SqL.of upd_same⟩, fun D hD => ?_⟩
    have s1 : Same H (upd H p (.lst ((kg S).map V.str))) := same_new hp
    have ep : (upd H p (.lst ((kg S).map V.str))) p = some (.lst ((kg S).map V.str)) := upd_same
    generalize upd H p (.lst ((kg S).map V.str)) = H1 at s1 ep hD
    refine lc_list (K := K) (a := p) (xs := (kg S).map V.str) (fun i H' => Same H1 H' ∧ H' D = some (.lst (((S.take i).map fun p => turP p.1 p.2).map V.str))) ⟨same_new hD, upd_same⟩ (fun i H' _ ⟨s2, _⟩ => SqL.of (s2 _ _ ep)) ?_ ?_
    · intro i y H' hy ⟨s2, hz⟩
      unfold kg at hy
      rw [List.map_map, List.getElem?_map] at hy
      obtain ⟨pp, epp, ey⟩ := Option.map_eq_some_iff.mp hy
      subst ey
      have hm := List.mem_of_getElem? epp
      obtain ⟨q1, q2, q3⟩ := oS.ns _ hm
      obtain ⟨u0, hu0', e0⟩ := List.mem_map.mp (pS.mem_iff.mp hm)
      obtain ⟨u, hum, e1, hval, hws⟩ := val_tkv nT (List.mem_map.mpr ⟨u0, hu0', rfl⟩)
      have ea : u0.1 = pp.1 := congrArg Prod.fst e0
      have eb : u.2.2 = pp.2 := by rw [← hws, wsOf_mem nT hu0']; exact congrArg Prod.snd e0
      rw [ea] at hval
      have s3 := s1.trans s2
      have jl : (Txt.join blS u.2.2).length ≤ 27 ∧ (u.2.2.map (·.length)).sum + u.2.2.length * blS.length ≤ 27 := by rw [eb]; exact joinW_len q2 q3
      have nl : 1 ≤ pp.1.length ∧ pp.1.length ≤ 8 := nameB_len q1
      refine ⟨rfl, yes_of (iteT ?_)⟩
      refine ⟨_, rfl, _, _, rfl, rfl, ?_, ⟨_, rfl⟩, _, rfl, _, rfl, d, _, rfl, .inl ⟨T.map tkv, .inr pp.1, .inl (s3 _ _ hd), rfl, hval.symm⟩, _, u.2.1, u.2.2, rfl, rfl, .inl (SqL.of (s3 _ _ (hl u hum))), ?_, _, _, rfl, rfl, ?_, _, hz, ?_, ?_, ?_⟩
      · show pp.1.length + gtS.length ≤ _
        rw [l1.1, sizeLine_eq]
        have := nl.2
        omega
      · exact Nat.le_trans jl.2 (by decide)
      · show (pp.1 ++ gtS).length + (Txt.join blS u.2.2).length ≤ _
        rw [PySem.Str.length_append, l1.1, sizeLine_eq]
        have := nl.2
        have := jl.1
        omega
      · rw [List.length_map, List.length_map, List.length_take, sizeLine_eq]
        omega
      · intro c o e
        rw [upd_ne (ne_of_none e hD)]
        exact s2 _ _ e
      · rw [upd_same, List.take_succ, epp, eb]
        simp [turP]
    · rintro H2 ⟨s2, hz⟩
      have lks : ((kg S).map V.str).length = S.length := by rw [List.length_map, kg_len]
      rw [lks, List.take_length] at hz
      have s3 := s1.trans s2
      refine ⟨_, rfl, .inl ⟨rfl, _, SqL.of hz⟩, ?_⟩
      refine ⟨_, rfl, e, B0.map kvi, ks B0, rfl, .inl (s3 _ _ he), keys_kvi2 B0, (by rw [ks_len]; omega), fun ys p2 pm so hp2 => ?_⟩
      have ey : ys = kg (α := Int) B := sorted_kg oS.cb (pm.trans (ks_perm pB).symm) so
      subst ey
      refine ⟨p2, rfl, ⟨_, SqL.of upd_same⟩, fun D2 hD2 => ?_⟩
      have s4 := s3.trans (same_new (o := .lst ((kg (α := Int) B).map V.str)) hp2)
      have ep2 : (upd H2 p2 (.lst ((kg (α := Int) B).map V.str))) p2 = some (.lst ((kg (α := Int) B).map V.str)) := upd_same
      have hz2 : (upd H2 p2 (.lst ((kg (α := Int) B).map V.str))) D = some (.lst ((S.map fun p => turP p.1 p.2).map V.str)) := same_new hp2 _ _ hz
      generalize upd H2 p2 (.lst ((kg (α := Int) B).map V.str)) = H3 at s4 ep2 hz2 hD2
      refine lc_list (K := K) (a := p2) (xs := (kg (α := Int) B).map V.str) (fun i H' => Same H3 H' ∧ H' D2 = some (.lst (((B.take i).map fun b => briP b.1 b.2).map V.str))) ⟨same_new hD2, upd_same⟩ (fun i H' _ ⟨s5, _⟩ => SqL.of (s5 _ _ ep2)) ?_ ?_
      · intro i y H' hy ⟨s5, hy2⟩
        unfold kg at hy
        rw [List.map_map, List.getElem?_map] at hy
        obtain ⟨b, eb, ey⟩ := Option.map_eq_some_iff.mp hy
        subst ey
        have hm := List.mem_of_getElem? eb
        obtain ⟨q1, q2, q3⟩ := oS.nb _ hm
        have il := intS_len q2 q3
        have nl := nameB_len q1
        have s6 := s4.trans s5
        have hval : valV (B0.map kvi) (.inr b.1) = some (.int b.2) := by
          rw [valV_kvi, get?_of nB0 (show (b.1, b.2) ∈ B0 from pB.mem_iff.mp hm)]
          rfl
        refine ⟨rfl, yes_of (iteT ?_)⟩
        refine ⟨_, rfl, _, _, rfl, rfl, ?_, _, _, rfl, rfl, ?_, _, rfl, _, rfl, e, _, rfl, .inl ⟨B0.map kvi, .inr b.1, .inl (s6 _ _ he), rfl, hval.symm⟩, b.2, rfl, il.2, _, _, rfl, rfl, ?_, _, hy2, ?_, ?_, ?_⟩
        · show plS.length + b.1.length ≤ _
          rw [l1.2.2.1, sizeLine_eq]
          have := nl.2
          omega
        · show (plS ++ b.1).length + blS.length ≤ _
          rw [PySem.Str.length_append, l1.2.2.1, l1.2.1, sizeLine_eq]
          have := nl.2
          omega
        · show (plS ++ b.1 ++ blS).length + (intS b.2).length ≤ _
          rw [PySem.Str.length_append, PySem.Str.length_append, l1.2.2.1, l1.2.1, sizeLine_eq]
          have := nl.2
          have := il.1
          omega
        · rw [List.length_map, List.length_map, List.length_take, sizeLine_eq]
          omega
        · intro c o e
          rw [upd_ne (ne_of_none e hD2)]
          exact s5 _ _ e
        · rw [upd_same, List.take_succ, eb]
          simp [briP, intS]
      · rintro H4 ⟨s5, hy2⟩
        have lkb : ((kg (α := Int) B).map V.str).length = B.length := by rw [List.length_map, kg_len]
        rw [lkb, List.take_length] at hy2
        have s6 := s4.trans s5
        have hz4 := s5 _ _ hz2
        have pl := parts_len oS
        have pj := parts_join oS
        have pn := parts_num oS
        have ep : (S.map fun p => turP p.1 p.2).map V.str ++ (B.map fun b => briP b.1 b.2).map V.str = (partsOf S B).map V.str := by
          unfold partsOf
          rw [List.map_append]
        refine ⟨D, D2, _, _, rfl, rfl, hz4, hy2, ?_, ?_⟩
        · rw [List.length_map, List.length_map, List.length_map, List.length_map, sizeLine_eq]
          omega
        rw [ep]
        have eD : (upd H4 D (.lst ((partsOf S B).map V.str))) D = some (.lst ((partsOf S B).map V.str)) := upd_same
        have s7 : Same H (upd H4 D (.lst ((partsOf S B).map V.str))) := fun c o e => by
          have : c ≠ D := fun z => by
            have := s1 _ _ e
            rw [z, hD] at this
            cases this
          rw [upd_ne this]
          exact s6 _ _ e
        generalize upd H4 D (.lst ((partsOf S B).map V.str)) = H5 at eD s7
        have tx : ∀ b : Bool, (partsOf S B).isEmpty = b → txt S B = if b = true then ("nothing" : Str) else Txt.join cmS (partsOf S B) := fun b hb => by unfold txt; rw [hb]
        refine ⟨_, rfl, (by show 0 ≤ sizeLine; decide), fun z hz => ⟨D, z, _, rfl, rfl, SqL.of (same_new hz _ _ eD), SqL.of upd_same, _, rfl, ?_⟩⟩
        have k' := k _ (s7.trans (same_new (o := .lst []) hz))
        have em : ((partsOf S B).map V.str).isEmpty = (partsOf S B).isEmpty := by cases partsOf S B <;> rfl
        rw [em]
        refine ite_of (fun c => ?_) (fun c => ?_)
        · have c' : (partsOf S B).isEmpty = false := by simpa using c
          rw [tx _ c'] at k'
          exact ⟨⟨_, rfl⟩, _, rfl, _, D, partsOf S B, rfl, rfl, .inl (SqL.of (same_new hz _ _ eD)), Nat.le_trans pj.1 (by decide), k'⟩
        · have c' : (partsOf S B).isEmpty = true := by simpa using c
          rw [tx _ c'] at k'
          exact k'
structure Meths (P : Program) (w : World) (K : PySem.W.Frag) (mg : Str → Option Value) (base : Heap) (C : Addr) : Prop where
  cl : Cls K C
  turns : CalM P w K mg base C 1 "turns" (sp_sturns C)
  brings : CalM P w K mg base C 1 "brings" (sp_sbrings C)
  reads : CalM P w K mg base C 1 "reads" (sp_sreads C)
  writes : CalM P w K mg base C 1 "writes" (sp_swrites C)
  text : CalM P w K mg base C 1 "text" (sp_stext C)
def sp_isright (C : Addr) : Sp := fun vs H Q _ => ∃ (t q d e : Addr) (S : CT) (B : NI) (T : TT') (B0 : NI), vs = [.ref t, .ref q] ∧ StmAt H C t S B ∧ PlanAt H q d e T B0 ∧ S.Perm (ct T) ∧ B.Perm B0 ∧ ∀ H', Same H H' → Q (.bl true) H'
abbrev irN : List Str := ["_law_statement", "_law_plan_here", "_law_turns", "_law_brings", "_law_writes", "_law_kind"]
theorem ok_isright (F : FnP K "_law_is_right" s_l_is_right [] f fd) (Du : Cal P w K mg base 1 "_law_due" [] sp_due) (M : Meths P w K mg base C) (mL : mg "list" = none) (mS : mg "sorted" = none) (mE : mg "set" = none) : FnOk P w K mg base CX0 2 f fd ["_law_statement", "_law_plan_here"] (sp_isright C) := by
  refine F.ok sc_l_is_right (fun vs H Q E h => ?_) (fun cdv A outer s H vs Q E hr h => ?_)
  · obtain ⟨t, q, d, e, S, B, T, B0, rfl, _⟩ := h
    rfl
  · obtain ⟨t, q, d, e, S, B, T, B0, rfl, st, pl, pS, pB, k⟩ := h
    have nd := sc_l_is_right.nd
    have hu := hu_of hr
    have hu0 := hr.units0
    have hu2 := room128 hr
    have hu3 := hr.units
    refine ⟨_, PSs.nox (pss_cons (ps_asg (pe_cal Du hr (pa_cons (pv 1) pa_nil)) (pg_unl rfl (pgs_cons (pg_name (i := 2) nd rfl (Or.inl rfl)) (pgs_cons (pg_name (i := 3) nd rfl (Or.inl rfl)) pgs_nil))) (by rfl))
      (pss_cons (ps_set (i := 4) nd rfl (.inl rfl) (pe_callTy (call_listD rfl) (by rfl) mL PyProof.Rows.Boot.«list» (pa_cons (pv 3) pa_nil)))
      (pss_cons (ps_lock (ps_for PassesOwn.never rfl (pi_keys (pv 2)) (pg_name (i := 5) nd rfl (Or.inl rfl)) (pss_one (ps_expr (pe_bm PySem.F.plainAttrs_list PySem.F.slot_list_extend PySem.F.type_list_extend mt_extend (pv 4) (pa_cons (pe_callTy (r := rLO K) call_list_of (by rfl) mL PyProof.Rows.Boot.«list» (pa_cons (pe_dget hu (pv 2) (pv 5) (fun _ _ => rfl)) pa_nil)) pa_nil))))))
      (pss_cons (ps_if (PW.pt (pw_or (pt_cmpR (op_neTur hu2) (pe_me0 M.turns M.cl hr (pv 0)) (pv 2) (nomark _)) (pw_or1 (pt_cmpR (op_neDic hu0) (pe_me0 M.brings M.cl hr (pv 0)) (pv 3) (nomark _))))) (pss_one ps_never) pss_nil)
      (pss_cons (ps_if (PW.pt (pw_or (pt_cmpR (op_neS hu0) (pe_callTy (call_listD rfl) (by rfl) mL PyProof.Rows.Boot.«list» (pa_cons (pe_me0 M.turns M.cl hr (pv 0)) pa_nil)) (pe_callB (call_sortedD rfl) (by rfl) mS (by decide +kernel) (pa_cons (pv 2) pa_nil)) (nomark _))
          (pw_or1 (pt_cmpR (op_neS hu0) (pe_callTy (call_listD rfl) (by rfl) mL PyProof.Rows.Boot.«list» (pa_cons (pe_me0 M.brings M.cl hr (pv 0)) pa_nil)) (pe_callB (call_sortedD rfl) (by rfl) mS (by decide +kernel) (pa_cons (pv 3) pa_nil)) (nomark _))))) (pss_one ps_never) pss_nil)
      (pss_one (ps_ret (pe_and (pe_cmpR (op_eqV hu3) (pe_me0 M.reads M.cl hr (pv 0)) (pe_callB (call_sortedD rfl) (by rfl) mS (by decide +kernel) (pa_cons (pv 2) pa_nil)) (nomark _))
        (pe_one (pe_cmpR (op_eqV hu3) (pe_me0 M.writes M.cl hr (pv 0)) (pe_callB (r := rSortTx P w) (cr_sortTx rfl) (by rfl) mS (by decide +kernel) (pa_cons (pe_callTy (r := rSetTx K P w) (cr_setTx rfl) (by rfl) mE (by decide +kernel) (pa_cons (pv 4) pa_nil)) pa_nil)) (nomark _))))))))))), ?_⟩
    have oS : SOk S B := let ⟨_, _, _, _, _, _, o, _⟩ := st; o
    have pk : (T.map (·.1)).Perm (kg S) := by rw [← kg_ct]; exact (kg_perm pS).symm
    have nT : (T.map (·.1)).Nodup := pk.nodup_iff.mpr oS.cs.nd
    have lT : T.length = S.length := by
      have := pS.length_eq
      have h5 : (ct T).length = T.length := List.length_map _
      omega
    have lS8 := oS.ls
    have lB8 := oS.lb
    have lB0 := pB.length_eq
    have nB0 : (ks B0).Nodup := (ks_perm pB).nodup_iff.mp oS.cb.nd
    have nz : ∀ u ∈ T, ∀ z ∈ u.2.2, nameB z = true := fun u hu z hz => (oS.ns _ (pS.mem_iff.mpr (List.mem_map.mpr ⟨u, hu, rfl⟩))).2.2 z hz
    show tSeq (tAsg _ _) _ _ [some (V.ref t), some (V.ref q), none, none, none, none] H
    refine ⟨_, rfl, q, d, e, T, B0, rfl, pl, nT, by omega, nz, fun l a c T' H1 hl ha hc s1 el tT ec eb => ?_⟩
    refine ⟨l, _, rfl, SqL.of el, rfl, _, _, rfl, _, _, rfl, rfl, ?_⟩
    refine nxs_of (asg_of ⟨_, rfl, c, B0.map kvi, rfl, .inl eb, fun wl hw => ?_⟩)
    rw [keysV_kvi]
    have s2 : Same H (upd H1 wl (.lst ((ks B0).map V.str))) := s1.trans (same_new hw)
    have ew : (upd H1 wl (.lst ((ks B0).map V.str))) wl = some (.lst ((ks B0).map V.str)) := upd_same
    have tT2 := tT.same (same_new (o := .lst ((ks B0).map V.str)) hw)
    have eb2 := same_new (o := .lst ((ks B0).map V.str)) hw _ _ eb
    have wH : H wl = none := free_same s1 hw
    generalize upd H1 wl (.lst ((ks B0).map V.str)) = H2 at s2 ew tT2 eb2
    have lT' : T'.length = T.length := by
      have h5 : (ct T).length = T.length := List.length_map _
      have h6 : (ct T').length = T'.length := List.length_map _
      rw [ec] at h6
      omega
    have nT' : (T'.map (·.1)).Nodup := by rw [← kg_ct, ec, kg_ct]; exact nT
    have l3 : ∀ u ∈ T', u.2.2.length ≤ 3 := fun u hu => by
      have : (u.1, u.2.2) ∈ S := pS.mem_iff.mpr (by rw [← ec]; exact List.mem_map.mpr ⟨u, hu, rfl⟩)
      exact (oS.ns _ this).2.1
    have fl : ∀ i, ((T'.take i).flatMap fun u => u.2.2).length ≤ 24 := fun i => by
      have h0 : (flatT (ct (T'.take i))).length ≤ 3 * (ct (T'.take i)).length := flatT_len fun p hp => by
        obtain ⟨u, hu, rfl⟩ := List.mem_map.mp hp
        exact l3 u (List.mem_of_mem_take hu)
      rw [flatT_ct] at h0
      have h3 : (ct (T'.take i)).length ≤ T'.length := by
        show (List.map _ _).length ≤ _
        rw [List.length_map, List.length_take]
        omega
      omega
    refine ⟨a, .dK (T'.map tkv), tT2.1, True.intro, fun od => ?_⟩
    have naw : wl ≠ a := fun z => by rw [z, tT2.1] at ew; cases ew
    have el2 : (upd H2 a (.frz od (.dK (T'.map tkv)))) a = some (.frz od (.dK (T'.map tkv))) := upd_same
    have ew2 := lock_ne (od := od) tT2.1 ew naw
    have eT : ∀ u ∈ T', (upd H2 a (.frz od (.dK (T'.map tkv)))) u.2.1 = some (.tup (u.2.2.map V.str)) := fun u hu => lock_ne tT2.1 (tT2.2 u hu).1 (fun z => by have := (tT2.2 u hu).1; rw [z, tT2.1] at this; cases this)
    refine ⟨_, rfl, a, od, rfl, .inl ⟨T'.map tkv, el2, ?_⟩⟩
    refine for_it (walk_keys (o := od) (d := a) (kvs := T'.map tkv)) (fun i σ H' => Keep wl (upd H2 a (.frz od (.dK (T'.map tkv)))) H' ∧ H' wl = some (.lst ((ks B0 ++ (T'.take i).flatMap fun u => u.2.2).map V.str)) ∧ ∃ y, σ = [some (V.ref t), some (V.ref q), some (V.ref a), some (V.ref c), some (V.ref wl), y])
      ⟨fun _ _ _ e => e, by rw [List.take_zero, List.flatMap_nil, List.append_nil]; exact ew2, none, rfl⟩ (fun i σ H' _ ⟨kp, _⟩ => kp _ _ naw.symm el2) ?_ ?_
    · rintro i x σ Ha Hb hi ⟨kp, hwl, y, rfl⟩ hy
      obtain ⟨e, z, hz, rfl⟩ := keys_Y i _ _ _ hy
      subst e
      rw [List.getElem?_map] at hz
      obtain ⟨u, hu, rfl⟩ := Option.map_eq_some_iff.mp hz
      have hm := List.mem_of_getElem? hu
      obtain ⟨u', hum, e1, hval, hws⟩ := val_tkv nT' (List.mem_map.mpr ⟨u, hm, rfl⟩)
      have ews : u'.2.2 = u.2.2 := by rw [← hws, wsOf_mem nT' hm]
      have eu := eT u' hum
      have nuw : u'.2.1 ≠ wl := fun z => by rw [z, ew2] at eu; cases eu
      refine ⟨_, rfl, .inl ⟨rfl, _, SqL.of hwl⟩, ?_⟩
      refine ⟨_, rfl, _, rfl, a, _, rfl, .inl ⟨T'.map tkv, .inr u.1, .inr ⟨od, kp _ _ naw.symm el2⟩, rfl, hval.symm⟩, u'.2.1, _, rfl, .inr (SqT.of (kp _ _ nuw eu)), fun z hz => ?_⟩
      have nzw : wl ≠ z := ne_of_none hwl hz
      refine ⟨wl, z, _, _, rfl, rfl, by rw [upd_ne nzw]; exact hwl, upd_same, ?_, fun c o n e => ?_, ?_, _, rfl⟩
      · rw [List.length_map, List.length_append, List.length_map, ews, sizeLine_eq, ks_len]
        have := fl i
        have := l3 u hm
        omega
      · rw [upd_ne n, upd_ne (ne_of_none (kp _ _ n e) hz)]
        exact kp _ _ n e
      · rw [upd_same, List.take_succ, hu, ews]
        simp
    · rintro σ Ha ⟨kp, hwl, y, rfl⟩
      rw [List.length_map, List.take_length, ← flatT_ct] at hwl
      have ll := fl T'.length
      rw [List.take_length, ← flatT_ct] at ll
      refine ⟨kp _ _ naw.symm el2, ?_⟩
      have s3 : Same H (upd Ha a (.dK (T'.map tkv))) := fun c o e => by
        have n1 : c ≠ a := fun z => by rw [z, ha] at e; cases e
        have n2 : c ≠ wl := fun z => by rw [z, wH] at e; cases e
        rw [upd_ne n1]
        exact kp _ _ n2 (by rw [upd_ne n1]; exact s2 _ _ e)
      have tT3 : TupsAt (upd Ha a (.dK (T'.map tkv))) a T' := ⟨upd_same, fun u hu => ⟨by
        have h := (tT2.2 u hu).1
        have n1 : u.2.1 ≠ a := fun z => by rw [z, tT2.1] at h; cases h
        have n2 : u.2.1 ≠ wl := fun z => by rw [z, ew] at h; cases h
        rw [upd_ne n1]
        exact kp _ _ n2 (eT u hu), (tT2.2 u hu).2⟩⟩
      have eb3 : (upd Ha a (.dK (T'.map tkv))) c = some (dI B0) := by
        have h := eb2
        by_cases n1 : c = a
        · subst n1
          rw [tT2.1] at h
          rw [upd_same]
          exact h
        · have n2 : c ≠ wl := fun z => by rw [z, ew] at h; cases h
          rw [upd_ne n1]
          exact kp _ _ n2 (by rw [upd_ne n1]; exact h)
      have ew3 : (upd Ha a (.dK (T'.map tkv))) wl = some (.lst ((ks B0 ++ flatT (ct T')).map V.str)) := by rw [upd_ne naw]; exact hwl
      generalize upd Ha a (.dK (T'.map tkv)) = H3 at s3 tT3 eb3 ew3
      refine nxs_of ?_
      obtain ⟨dx, _, _, _, ⟨htx, _, _⟩, _⟩ := id st
      have kT' : (T'.map (·.1)).Perm (kg S) := by rw [← kg_ct, ec, kg_ct]; exact pk
      -- turns, brings
      refine ifs_of (or_of (test_of ⟨_, rfl, t, dx, _, rfl, s3 _ _ htx, rfl, t, S, B, rfl, st.same s3, fun d1 T1 H4 hd1 s4 t1 e1 => ?_⟩))
      refine ⟨_, rfl, d1, a, T1, T', rfl, rfl, t1, tT3.same s4, _, rfl, ?_⟩
      have q1 : eqG (ct T1) (ct T') = true := by
        rw [e1, ec]
        exact (eqG_iff oS.cs.nd (by rw [kg_ct]; exact nT)).mpr (gl_perm pS oS.cs.nd)
      rw [q1]
      have s5 := s3.trans s4
      refine iteF (test_of ⟨_, rfl, t, dx, _, rfl, s5 _ _ htx, rfl, t, S, B, rfl, st.same s5, fun d2 H5 hd2 s6 e2 => ?_⟩)
      have eb5 := s6 _ _ (s4 _ _ eb3)
      refine ⟨_, rfl, d2, c, _, _, rfl, rfl, .inl e2, .inl eb5, flat_dI B, flat_dI B0, _, rfl, ?_⟩
      have q2 : dicEq (B.map kvi) (B0.map kvi) = true := (eqI_iff oS.cb.nd nB0).mpr fun x => gl_perm (α := Int) pB oS.cb.nd x
      rw [q2]
      refine iteF (nx_of ?_)
      have s7 := s5.trans s6
      have tT5 := (tT3.same s4).same s6
      have ew5 := s6 _ _ (s4 _ _ ew3)
      -- list(turns), list(brings)
      refine ifs_of (or_of (test_of ⟨_, rfl, t, dx, _, rfl, s7 _ _ htx, rfl, t, S, B, rfl, st.same s7, fun d3 T3 H6 hd3 s8 t3 e3 => ?_⟩))
      refine ⟨d3, _, rfl, .inl t3.1, fun p1 hp1 => ?_⟩
      rw [keys_tur, e3]
      have tT6 := (tT5.same s8).same (same_new (o := .lst ((kg S).map V.str)) hp1)
      refine ⟨_, rfl, a, _, T'.map (·.1), rfl, .inl tT6.1, by rw [keys_tkv, kg_ct], (by rw [List.length_map]; omega), fun ys p2 pm so hp2 => ?_⟩
      have ey := sorted_kg oS.cs (pm.trans kT') so
      subst ey
      refine ⟨p1, p2, _, rfl, rfl, SqL.of (same_new hp2 _ _ upd_same), SqL.of upd_same, tame_strs _, _, rfl, iteF ?_⟩
      have s9 : Same H (upd (upd H6 p1 (.lst ((kg S).map V.str))) p2 (.lst ((kg S).map V.str))) := s7.trans (s8.trans ((same_new hp1).trans (same_new hp2)))
      have tT7 := tT6.same (same_new (o := .lst ((kg S).map V.str)) hp2)
      have eb7 := same_new (o := .lst ((kg S).map V.str)) hp2 _ _ (same_new (o := .lst ((kg S).map V.str)) hp1 _ _ (s8 _ _ eb5))
      have ew7 := same_new (o := .lst ((kg S).map V.str)) hp2 _ _ (same_new (o := .lst ((kg S).map V.str)) hp1 _ _ (s8 _ _ ew5))
      generalize upd (upd H6 p1 (.lst ((kg S).map V.str))) p2 (.lst ((kg S).map V.str)) = H7 at s9 tT7 eb7 ew7
      refine test_of ⟨_, rfl, t, dx, _, rfl, s9 _ _ htx, rfl, t, S, B, rfl, st.same s9, fun d4 H8 hd4 s10 e4 => ?_⟩
      refine ⟨d4, _, rfl, .inl e4, fun p3 hp3 => ?_⟩
      rw [keysV_kvi]
      have eb9 := same_new (o := .lst ((ks B).map V.str)) hp3 _ _ (s10 _ _ eb7)
      refine ⟨_, rfl, c, _, ks B0, rfl, .inl eb9, keys_kvi2 B0, (by rw [ks_len]; omega), fun ys p4 pm so hp4 => ?_⟩
      have ey : ys = kg (α := Int) B := sorted_kg oS.cb (pm.trans (ks_perm pB).symm) so
      subst ey
      refine ⟨p3, p4, _, rfl, rfl, SqL.of (same_new hp4 _ _ upd_same), SqL.of upd_same, tame_strs _, _, rfl, iteF (nx_of ?_)⟩
      have s11 : Same H (upd (upd H8 p3 (.lst ((ks B).map V.str))) p4 (.lst ((kg (α := Int) B).map V.str))) := s9.trans (s10.trans ((same_new hp3).trans (same_new hp4)))
      have tT9 := ((tT7.same s10).same (same_new (o := .lst ((ks B).map V.str)) hp3)).same (same_new (o := .lst ((kg (α := Int) B).map V.str)) hp4)
      have ew9 := same_new (o := .lst ((kg (α := Int) B).map V.str)) hp4 _ _ (same_new (o := .lst ((ks B).map V.str)) hp3 _ _ (s10 _ _ ew7))
      generalize upd (upd H8 p3 (.lst ((ks B).map V.str))) p4 (.lst ((kg (α := Int) B).map V.str)) = H9 at s11 tT9 ew9
      -- reads, writes
      refine ⟨_, rfl, t, dx, _, rfl, s11 _ _ htx, rfl, t, S, B, rfl, st.same s11, fun r1 hr1 => ?_⟩
      have tT10 := tT9.same (same_new (o := .lst ((kg S).map V.str)) hr1)
      refine ⟨_, rfl, a, _, T'.map (·.1), rfl, .inl tT10.1, by rw [keys_tkv, kg_ct], (by rw [List.length_map]; omega), fun ys r2 pm so hr2 => ?_⟩
      have ey2 := sorted_kg oS.cs (pm.trans kT') so
      subst ey2
      refine eqL_strs (SqL.of (same_new hr2 _ _ upd_same)) (SqL.of upd_same) ⟨_, rfl, iteT ?_⟩
      have s12 : Same H (upd (upd H9 r1 (.lst ((kg S).map V.str))) r2 (.lst ((kg S).map V.str))) := s11.trans ((same_new hr1).trans (same_new hr2))
      have ew10 := same_new (o := .lst ((kg S).map V.str)) hr2 _ _ (same_new (o := .lst ((kg S).map V.str)) hr1 _ _ ew9)
      generalize upd (upd H9 r1 (.lst ((kg S).map V.str))) r2 (.lst ((kg S).map V.str)) = H10 at s12 ew10
      refine ⟨_, rfl, t, dx, _, rfl, s12 _ _ htx, rfl, t, S, B, rfl, st.same s12, fun w1 ys H11 hw1 s13 ew11 pmw sow => ?_⟩
      have lw : (ks B0 ++ flatT (ct T')).length ≤ 32 := by rw [List.length_append, ks_len]; omega
      refine ⟨_, rfl, wl, _, rfl, SqL.of (s13 _ _ ew10), by unfold scanBound; omega, fun sa hsa => ⟨sa, _, rfl, upd_same, ?_, fun zs w2 pmz soz hw2 => ?_⟩⟩
      · have := dd_len (ks B0 ++ flatT (ct T')) (ks B0 ++ flatT (ct T')).length
        omega
      have ezs : zs = ys := by
        refine perm_unique leS_anti ?_ (sorted_pairwise soz) (sorted_pairwise sow)
        refine pmz.trans ((nodup_perm (dd_nodup _ _) (dd_nodup _ _) fun x => ?_).trans pmw.symm)
        rw [dd_mem, dd_mem, List.take_length, List.take_length, List.mem_append, List.mem_append, ec, ← flat_perm pS x, Or.comm]
        have : x ∈ ks B0 ↔ x ∈ ks B := (ks_perm pB).mem_iff.symm
        rw [this]
      subst ezs
      have f1 := same_new (o := .lst (zs.map V.str)) hw2 _ _ (same_new (o := StrO P w sa (dd (ks B0 ++ flatT (ct T')) (ks B0 ++ flatT (ct T')).length)) hsa _ _ ew11)
      exact eqL_strs (SqL.of f1) (SqL.of upd_same) (k _ (s12.trans (s13.trans ((same_new hsa).trans (same_new hw2)))))
end
end Lw
/-! ## LwJ -/
set_option Elab.async false
set_option linter.all false
set_option maxRecDepth 100000
set_option maxHeartbeats 8000000
set_option pp.deepTerms false
set_option pp.deepTerms.threshold 3
set_option pp.maxSteps 500
namespace Sl
open PySem PySem.Spec PyProof.Rows L2 Lw
/-- the pairs (x, a number), x by x, of those that pass -/
theorem prp_of {J : It} {n : Nat} {G : Hp → Prop} {Y : Nat → Hp → V → Hp → Prop} (w : Walk J n G Y) {ys : List Str} {b : Str → Bool} {vf : Str → Int} {m : Nat} {tt : TT} {tv : TE} {σ : L2.St} {H1 : Hp} {D : Addr} {Qd : Hp → Prop} (hn : n = ys.length) (hm : m < σ.length) (hl : ys.length ≤ 1000) (hD : H1 D = none)
    (hG : ∀ H', Same H1 H' → G H') (hY : ∀ i H x H', Y i H x H' → H' = H ∧ ∃ z, ys[i]? = some z ∧ x = .str z)
    (ht : ∀ x ∈ ys, ∀ (H' : Hp) (Q' : Bool → Hp → Prop), Same H1 H' → Q' (b x) H' → tt ((wipe σ [m]).set m (some (.str x))) H' Q')
    (hv : ∀ x ∈ ys, ∀ (H' : Hp) (Q' : VK), Same H1 H' → Q' (.int (vf x)) H' → tv ((wipe σ [m]).set m (some (.str x))) H' Q')
    (k : ∀ (ts : List Addr) (H' : Hp), Same H1 H' → H' D = some (.lst (ts.map V.ref)) → Paired (fun (t : Addr) (q : Str × Int) => H' t = some (.tup [.str q.1, .int q.2])) ts ((ys.filter b).map fun x => (x, vf x)) → Qd H') :
    ∃ W : Nat → Nat → Hp → Prop, (∃ m, W 0 m (upd H1 D (.lst []))) ∧ ∀ i m' H, W i m' H → (J.stop i H ∧ Qd H) ∨ (J.go i H ∧ ∃ Nx : Hp → Prop, (∀ H', Nx H' → ∃ m'', m'' < m' ∧ W (i + 1) m'' H') ∧ ∀ x H', J.yld i H x H' → gName m x (wipe σ [m]) H' fun σ2 H2 => wipe σ2 [m] = wipe σ [m] ∧ tt σ2 H2 fun c H3 =>
        if c = true then tTup (tCons (tVar m) (tCons tv tNil)) σ2 H3 fun y H4 => ∃ acc, H4 D = some (.lst acc) ∧ acc.length < sizeLine ∧ Nx (upd H4 D (.lst (acc ++ [y]))) else Nx H3) := by
  refine lc_it w (fun i H' => Same H1 H' ∧ ∃ ts : List Addr, H' D = some (.lst (ts.map V.ref)) ∧ Paired (fun (t : Addr) (q : Str × Int) => H' t = some (.tup [.str q.1, .int q.2])) ts (((ys.take i).filter b).map fun x => (x, vf x))) ⟨same_new hD, [], upd_same, .nil⟩ (fun i H' _ ⟨s, _⟩ => hG H' s) ?_ ?_
  · rintro i x Ha Hb hi ⟨s, ts, hd, hP⟩ hy
    obtain ⟨e, z, hz, rfl⟩ := hY _ _ _ _ hy
    subst e
    have hm2 := List.mem_of_getElem? hz
    have wm : m < (wipe σ [m]).length := by rw [wipe_length]; exact hm
    refine ⟨?_, ht z hm2 _ _ s ?_⟩
    · show ((σ.set m none).set m (some (V.str z))).set m none = σ.set m none
      rw [List.set_set, List.set_set]
    have lts : ts.length ≤ i := by
      have e1 : ts.length = (((ys.take i).filter b).map fun x => (x, vf x)).length := hP.length
      rw [List.length_map] at e1
      have := List.length_filter_le b (ys.take i)
      rw [List.length_take] at this
      omega
    cases hb : b z with
    | false =>
      refine iteF ⟨s, ts, hd, ?_⟩
      rw [List.take_succ, hz, List.filter_append]
      simpa [hb] using hP
    | true =>
      refine iteT ⟨.str z, by rw [List.getElem?_set_self wm], ?_⟩
      refine hv z hm2 _ _ s ⟨(by show 2 ≤ sizeLine; decide), fun t ht2 => ?_⟩
      have nt : D ≠ t := ne_of_none hd ht2
      have kindD : ∀ {c : Addr} {xs : List V}, Hb c = some (.tup xs) → c ≠ D := fun {c xs} e z => by rw [z, hd] at e; cases e
      have ok : ∀ c o, Hb c = some o → c ≠ D → (upd (upd Hb t (.tup [.str z, .int (vf z)])) D (.lst (ts.map V.ref ++ [.ref t]))) c = some o := fun c o e n => by
        rw [upd_ne n, upd_ne (ne_of_none e ht2)]
        exact e
      refine ⟨_, by rw [upd_ne nt]; exact hd, ?_, fun c o e => ok _ _ (s _ _ e) (ne_of_none e hD), ts ++ [t], ?_, ?_⟩
      · rw [List.length_map, sizeLine_eq]
        omega
      · rw [upd_same, List.map_append]
        rfl
      · rw [List.take_succ, hz, List.filter_append]
        have e2 : List.filter b (some z).toList = [z] := by simp [hb]
        rw [e2, List.map_append]
        refine paired_snoc ?_ (paired_imp (fun t' u' h => ok _ _ h (kindD h)) hP)
        rw [upd_ne nt.symm]
        exact upd_same
  · rintro H' ⟨s, ts, hd, hP⟩
    rw [hn, List.take_length] at hP
    exact k ts H' s hd hP
/-- the names that pass -/
theorem nmp_of {K : PySem.W.Frag} {l : Addr} {ys : List Str} {b : Str → Bool} {m : Nat} {tt : TT} {σ : L2.St} {H1 : Hp} {D : Addr} {Qd : Hp → Prop} (hm : m < σ.length) (hl : ys.length ≤ 1000) (hD : H1 D = none) (hL : H1 l = some (.lst (ys.map V.str)))
    (ht : ∀ x ∈ ys, ∀ (H' : Hp) (Q' : Bool → Hp → Prop), Same H1 H' → Q' (b x) H' → tt ((wipe σ [m]).set m (some (.str x))) H' Q')
    (k : ∀ (H' : Hp), Same H1 H' → H' D = some (.lst ((ys.filter b).map V.str)) → Qd H') :
    ∃ W : Nat → Nat → Hp → Prop, (∃ m, W 0 m (upd H1 D (.lst []))) ∧ ∀ i m' H, W i m' H → ((Itl K l).stop i H ∧ Qd H) ∨ ((Itl K l).go i H ∧ ∃ Nx : Hp → Prop, (∀ H', Nx H' → ∃ m'', m'' < m' ∧ W (i + 1) m'' H') ∧ ∀ x H', (Itl K l).yld i H x H' → gName m x (wipe σ [m]) H' fun σ2 H2 => wipe σ2 [m] = wipe σ [m] ∧ tt σ2 H2 fun c H3 =>
        if c = true then tVar m σ2 H3 fun y H4 => ∃ acc, H4 D = some (.lst acc) ∧ acc.length < sizeLine ∧ Nx (upd H4 D (.lst (acc ++ [y]))) else Nx H3) := by
  refine lc_list (K := K) (a := l) (xs := ys.map V.str) (Qd := Qd) (fun i H' => Same H1 H' ∧ H' D = some (.lst (((ys.take i).filter b).map V.str))) ⟨same_new hD, upd_same⟩ (fun i H' _ ⟨s, _⟩ => SqL.of (s _ _ hL)) ?_ ?_
  · intro i y H' hy ⟨s, hd⟩
    rw [List.getElem?_map] at hy
    obtain ⟨z, hz, ey⟩ := Option.map_eq_some_iff.mp hy
    subst ey
    have hm2 := List.mem_of_getElem? hz
    have wm : m < (wipe σ [m]).length := by rw [wipe_length]; exact hm
    refine ⟨?_, ht z hm2 _ _ s ?_⟩
    · show ((σ.set m none).set m (some (V.str z))).set m none = σ.set m none
      rw [List.set_set, List.set_set]
    cases hb : b z with
    | false =>
      refine iteF ⟨s, ?_⟩
      rw [List.take_succ, hz, List.filter_append]
      simpa [hb] using hd
    | true =>
      refine iteT ⟨.str z, by rw [List.getElem?_set_self wm], _, hd, ?_, fun c o e => ?_, ?_⟩
      · have := List.length_filter_le b (ys.take i)
        rw [List.length_take] at this
        rw [List.length_map, sizeLine_eq]
        omega
      · rw [upd_ne (ne_of_none e hD)]
        exact s _ _ e
      · rw [upd_same, List.take_succ, hz, List.filter_append]
        simp [hb]
  · rintro H' ⟨s, hd⟩
    rw [List.length_map, List.take_length] at hd
    exact k H' s hd
end Sl
namespace Lw
open PySem PySem.Spec PyProof.Rows L2 Sl
section
variable {P : Program} {w : World} {K : PySem.W.Frag} {mg : Str → Option Value} {base : Heap} {f : Addr} {fd : FuncData} {C CO a0 : Addr}
theorem paired_app2 {α β : Type} {R : α → β → Prop} : ∀ {xs : List α} {ys : List β} {zs : List α} {ws : List β}, Paired R xs ys → Paired R zs ws → Paired R (xs ++ zs) (ys ++ ws)
  | _, _, _, _, .nil, h => h
  | _, _, _, _, .cons r t, h => .cons r (paired_app2 t h)
theorem keysI_Y {B : NI} (i : Nat) (H : Hp) (x : V) (H' : Hp) (h : H' = H ∧ ∃ k v, (B.map kvi)[i]? = some (k, v) ∧ x = kV k) : H' = H ∧ ∃ z, (ks B)[i]? = some z ∧ x = .str z := by
  obtain ⟨e, k, v, hk, ex⟩ := h
  rw [List.getElem?_map] at hk
  obtain ⟨u, hu, eu⟩ := Option.map_eq_some_iff.mp hk
  have : k = .inr u.1 := (congrArg Prod.fst eu).symm
  subst this
  refine ⟨e, u.1, ?_, ex⟩
  unfold ks
  rw [List.getElem?_map, hu]
  rfl
theorem listS_Y {xs : List Str} (i : Nat) (H : Hp) (x : V) (H' : Hp) (h : YAt (xs.map V.str) i H x H') : H' = H ∧ ∃ z, xs[i]? = some z ∧ x = .str z := by
  obtain ⟨e, hx⟩ := h
  rw [List.getElem?_map] at hx
  obtain ⟨z, hz, ez⟩ := Option.map_eq_some_iff.mp hx
  exact ⟨e, z, hz, ez.symm⟩
abbrev tIX (K : PySem.W.Frag) (i j : Int) : TE := tOp (rIxT K) (tOp (rIxL K) (tVar 2) (tC (.int i))) (tC (.int j))
abbrev rGtI : R2 := rI0 fun i j => .bl (decide (j < i))
abbrev ttBad (K : PySem.W.Frag) : TT := tOr (tAnd (tB (tDIn (tVar 10) (tIX K 0 0))) (tB (tDIn (tVar 10) (tIX K 1 0)))) (tTest (tOp rGtI (tDGet (tVar 4) (tVar 10)) (tC (.int 9))))
abbrev rAdI : R2 := rI0 fun i j => .int (i + j)
theorem ix_of {σ : L2.St} {H : Hp} {Q : VK} {lp t : Addr} {ys zs : List V} {i j : Int} {v : V} (h2 : σ[2]? = some (some (.ref lp))) (hl : H lp = some (.lst ys)) (hi : atI ys i = some (.ref t)) (ht : H t = some (.tup zs)) (hj : atI zs j = some v) (k : Q v H) : tIX K i j σ H Q :=
  ⟨_, h2, lp, ys, i, _, rfl, rfl, SqL.of hl, hi, t, zs, j, v, rfl, rfl, SqT.of ht, hj, k⟩
def sp_joinright (K : PySem.W.Frag) (C : Addr) : Sp := fun vs H Q _ => ∃ (t u pp l q0 q1 d0 d1 e0 e1 : Addr) (S S2 : CT) (A B : NI) (T0 T1 : TT') (B0 B1 : NI) (xs : List Str), vs = [.ref t, .ref u, .ref pp, .ref l] ∧ StmAt H C t S A ∧ StmAt H C u S2 B ∧ H pp = some (.lst [.ref q0, .ref q1]) ∧ PlanAt H q0 d0 e0 T0 B0 ∧ PlanAt H q1 d1 e1 T1 B1 ∧
  S.Perm (ct T0) ∧ A.Perm B0 ∧ S2.Perm (ct T1) ∧ B.Perm B1 ∧ H l = some (.lst (xs.map V.str)) ∧ xs.Nodup ∧ xs.length ≤ 8 ∧ (∀ x ∈ kg S, x ∈ xs) ∧ (∀ x ∈ kg S2, x ∈ xs) ∧ (∀ x ∈ ks A, x ∈ xs) ∧ (∀ x ∈ ks B, x ∈ xs) ∧ S.length + S2.length ≤ 8 ∧ A.length + B.length ≤ 8 ∧ ∀ H', Same H H' → Q (.bl true) H'
abbrev jrN : List Str := ["_law_one", "_law_other", "_law_plans", "_law_kinds", "_law_sums", "_law_bad", "_law_both", "_law_many", "_law_word", "_law_told", "_law_kind"]
theorem ok_joinright (F : FnP K "_law_join_right" s_l_join_right [] f fd) (Tr : Cal P w K mg base 7 "_law_tried" [] (sp_tried C)) (Ir : Cal P w K mg base 2 "_law_is_right" [] (sp_isright C)) (Rt : Cal P w K mg base 1 "_law_rows_text" [] sp_rowstext) (M : Meths P w K mg base C) (mD : mg "dict" = none) (mL : mg "list" = none) (mS : mg "sorted" = none) : FnOk P w K mg base CX0 8 f fd ["_law_one", "_law_other", "_law_plans", "_law_kinds"] (sp_joinright K C) := by
  refine F.ok sc_l_join_right (fun vs H Q E h => ?_) (fun cdv A outer s H vs Q E hr h => ?_)
  · obtain ⟨t, u, pp, l, q0, q1, d0, d1, e0, e1, S, S2, A, B, T0, T1, B0, B1, xs, rfl, _⟩ := h
    rfl
  · obtain ⟨t, u, pp, l, q0, q1, d0, d1, e0, e1, S, S2, A1, B1', T0, T1, B0, B1, xs, rfl, st1, st2, hpp, pl0, pl1, pS, pA, pS2, pB, hl, nx, lx, kS, kS2, kA, kB, lS, lA, k⟩ := h
    have nd := sc_l_join_right.nd
    have hu := hu_of hr
    have hu0 := hr.units0
    have hu3 := hr.units
    have hr1 := hr.mono (show 1 ≤ 7 by decide)
    have hr2 := hr.mono (show 2 ≤ 7 by decide)
    refine ⟨_, PSs.nox (pss_cons (ps_set (i := 4) nd rfl (.inr rfl) (pe_callTy (r := rDP K) (call_dictP rfl) (by rfl) mD PyProof.Rows.Boot.«dict» (pa_cons (pe_lc (own := [("_law_kind", 10)]) (g := gName 10) (tt := tYes) (te := tTup (tCons (tVar 10) (tCons (tOp rAdI (tDGet2 (tIX K 0 1) (tVar 10) (tC (.int 0))) (tDGet2 (tIX K 1 1) (tVar 10) (tC (.int 0)))) tNil))) rfl nd (pi_list (pv 3)) (blkOk_by (N := jrN) (sc := defScope s_l_join_right) (by decide +kernel))
          (fun _ _ _ _ _ => pg_name (i := 10) nd rfl (Or.inl rfl)) (fun _ _ _ _ _ => pts_nil) (fun _ _ _ _ _ => pe_tup (pa_cons (pv 10) (pa_cons (pe_op op_add (pe_dget2 hu (pe_ix ix_tup (pe_ix ix_list (pv 2) pe_int (fun _ _ => rfl)) pe_int (fun _ _ => rfl)) (pv 10) pe_int ⟨rfl, rfl, rfl, rfl⟩) (pe_dget2 hu (pe_ix ix_tup (pe_ix ix_list (pv 2) pe_int (fun _ _ => rfl)) pe_int (fun _ _ => rfl)) (pv 10) pe_int ⟨rfl, rfl, rfl, rfl⟩)) pa_nil)))) pa_nil)))
      (pss_cons (ps_setLc (i := 5) (own := [("_law_kind", 10)]) (g := gName 10) (tt := ttBad K) (te := tVar 10) rfl nd rfl rfl (sw_true rfl rfl rfl (by decide +kernel)) (pi_list (pe_callB (r := rSortedS K) cr_sortedS (by rfl) mS (by decide +kernel) (pa_cons (pv 3) pa_nil))) (blkOk_by (N := jrN) (sc := defScope s_l_join_right) (by decide +kernel))
          (fun _ _ _ _ _ => pg_name (i := 10) nd rfl (Or.inl rfl)) (fun _ _ _ _ _ => pts_one (PW.pt (pw_or (PW.pt (pw_and (pt_cmp (pc_din hu (pv 10) (pe_ix ix_tup (pe_ix ix_list (pv 2) pe_int (fun _ _ => rfl)) pe_int (fun _ _ => rfl)))) (pw_and1 (pt_cmp (pc_din hu (pv 10) (pe_ix ix_tup (pe_ix ix_list (pv 2) pe_int (fun _ _ => rfl)) pe_int (fun _ _ => rfl))))))) (pw_or1 (pt_cmpR op_gt (pe_dget hu (pv 4) (pv 10) (fun _ _ => rfl)) pe_int (nomark _)))))) (fun _ _ _ _ _ => pv 10))
      (pss_cons (ps_set (i := 6) nd rfl (.inl rfl) (pe_callTy (r := rDP K) (call_dictP rfl) (by rfl) mD PyProof.Rows.Boot.«dict» (pa_cons (pe_op op_cat (LiI.pe_listItems rfl (pe_ix (r := rIxT K) ix_tup (pe_ix (r := rIxL K) ix_list (pv 2) pe_int (fun _ _ => rfl)) pe_int (fun _ _ => rfl)) (by rfl) mL PyProof.Rows.Boot.«list») (LiI.pe_listItems rfl (pe_ix (r := rIxT K) ix_tup (pe_ix (r := rIxL K) ix_list (pv 2) pe_int (fun _ _ => rfl)) pe_int (fun _ _ => rfl)) (by rfl) mL PyProof.Rows.Boot.«list»)) pa_nil)))
      (pss_cons (ps_set (i := 7) nd rfl (.inl rfl) (pe_callTy (r := rDP K) (call_dictP rfl) (by rfl) mD PyProof.Rows.Boot.«dict» (pa_cons (pe_lock (pe_lc (own := [("_law_kind", 10)]) (g := gName 10) (tt := tTest (tOp rGtI (tDGet (tVar 4) (tVar 10)) (tC (.int 0)))) (te := tTup (tCons (tVar 10) (tCons (tDGet (tVar 4) (tVar 10)) tNil))) rfl nd (pi_keys (pv 4)) (blkOk_by (N := jrN) (sc := defScope s_l_join_right) (by decide +kernel))
          (fun _ _ _ _ _ => pg_name (i := 10) nd rfl (Or.inl rfl)) (fun _ _ _ _ _ => pts_one (pt_cmpR op_gt (pe_dget hu (pv 4) (pv 10) (fun _ _ => rfl)) pe_int (nomark _))) (fun _ _ _ _ _ => pe_tup (pa_cons (pv 10) (pa_cons (pe_dget hu (pv 4) (pv 10) (fun _ _ => rfl)) pa_nil))))) pa_nil)))
      (pss_cons (ps_asg (pe_cal Tr hr (pa_cons (pv 0) (pa_cons (pv 1) pa_nil))) (pg_tup rfl (pgs_cons (pg_name (i := 8) nd rfl (Or.inl rfl)) (pgs_cons (pg_name (i := 9) nd rfl (Or.inl rfl)) pgs_nil))) (by rfl))
      (pss_cons (ps_if (pt_cmpR (op_neNil hu0) (pv 5) (pe_lst pa_nil) (nomark _)) (pss_one (ps_ret (pe_cmpR (op_eqD hu3) (pe_tup (pa_cons (pv 8) (pa_cons (pv 9) pa_nil))) (pe_tup (pa_cons pe_str (pa_cons (pe_ix (r := rIxL K) ix_list (pv 5) pe_int (fun _ _ => rfl)) pa_nil))) (nomark _)))) pss_nil)
      (pss_one (ps_ret (pe_and (pe_cmpR op_eq (pv 8) pe_str (nomark _)) (pe_and (pe_cal Ir hr2 (pa_cons (pv 9) (pa_cons (pe_tup (pa_cons (pv 6) (pa_cons (pv 7) pa_nil))) pa_nil))) (pe_one (pe_cmpR op_eq (pe_me0 M.text M.cl hr1 (pv 9)) (pe_cal Rt hr1 (pa_cons (pe_tup (pa_cons (pv 6) (pa_cons (pv 7) pa_nil))) pa_nil)) (nomark _))))))))))))), ?_⟩
    have oS : SOk S A1 := let ⟨_, _, _, _, _, _, o, _⟩ := st1; o
    have oS2 : SOk S2 B1' := let ⟨_, _, _, _, _, _, o, _⟩ := st2; o
    have nA : (ks A1).Nodup := oS.cb.nd
    have nB : (ks B1').Nodup := oS2.cb.nd
    have ga : ∀ x, get0 A1 x = get0 B0 x := get0_perm pA nA
    have gb : ∀ x, get0 B1' x = get0 B1 x := get0_perm pB nB
    have pkA : (T0.map (·.1)).Perm (kg S) := by rw [← kg_ct]; exact (kg_perm pS).symm
    have pkB : (T1.map (·.1)).Perm (kg S2) := by rw [← kg_ct]; exact (kg_perm pS2).symm
    have lB0 := pA.length_eq
    have lB1 := pB.length_eq
    let sm : Str → Int := fun x => get0 B0 x + get0 B1 x
    have gv : ∀ (B : NI) (x : Str), (valV (B.map kvi) (.inr x)).getD (.int 0) = .int (get0 B x) := fun B x => by
      rw [valV_kvi]
      unfold get0
      cases get? B x <;> rfl
    show tSeq (tAsg _ (gName 4)) _ _ [some (V.ref t), some (V.ref u), some (V.ref pp), some (V.ref l), none, none, none, none, none, none, none] H
    refine asg_of ⟨_, rfl, l, rfl, ⟨_, SqL.of hl⟩, fun D hD => ?_⟩
    refine prp_of (walk_list (xs := xs.map V.str)) (ys := xs) (b := fun _ => true) (vf := sm) (List.length_map _) (by show 10 < 11; decide) (by omega) hD (fun H' s => SqL.of (s _ _ hl)) listS_Y (fun _ _ _ _ _ h => yes_of h) (fun x hx H' Q' s hq => ?_) (fun ts H1 s1 hd1 hP1 => ?_)
    · refine ix_of rfl (s _ _ hpp) rfl (s _ _ pl0.t) rfl ⟨e0, rfl, .inl ⟨_, .inl (s _ _ pl0.e)⟩, _, rfl, valV (B0.map kvi) (.inr x), .inl ⟨B0.map kvi, .inr x, .inl (s _ _ pl0.e), rfl, rfl⟩, ?_⟩
      refine ix_of rfl (s _ _ hpp) rfl (s _ _ pl1.t) rfl ⟨e1, rfl, .inl ⟨_, .inl (s _ _ pl1.e)⟩, _, rfl, valV (B1.map kvi) (.inr x), .inl ⟨B1.map kvi, .inr x, .inl (s _ _ pl1.e), rfl, rfl⟩, ?_⟩
      exact ⟨get0 B0 x, get0 B1 x, gv B0 x, gv B1 x, hq⟩
    have ef : (xs.filter fun _ => true).map (fun x => (x, sm x)) = xs.map fun x => (x, sm x) := by rw [List.filter_eq_self.mpr fun _ _ => rfl]
    rw [ef] at hP1
    have kM0 : ks (xs.map fun x => (x, sm x)) = xs := ks_map xs sm
    have gM0 : ∀ x ∈ xs, valV ((xs.map fun x => (x, sm x)).map kvi) (.inr x) = some (.int (sm x)) := fun x hx => by
      rw [valV_kvi, get?_of (by rw [kM0]; exact nx) (List.mem_map.mpr ⟨x, hx, rfl⟩)]
      rfl
    generalize hM0 : (xs.map fun x => (x, sm x)) = M0 at hP1 kM0 gM0
    dsimp only [tNil]
    refine dpi_of hd1 hP1 (by rw [kM0]; exact nx) fun p4 hp4 => ?_
    have s2 : Same H (upd H1 p4 (dI M0)) := s1.trans (same_new hp4)
    have h4 : (upd H1 p4 (dI M0)) p4 = some (dI M0) := upd_same
    generalize upd H1 p4 (dI M0) = H2 at s2 h4
    -- bad
    refine asg_of ⟨_, rfl, l, xs, rfl, SqL.of (s2 _ _ hl), by omega, fun ys p pm so hp => ⟨p, rfl, ⟨_, SqL.of upd_same⟩, fun D2 hD2 => ?_⟩⟩
    have s3 : Same H2 (upd H2 p (.lst (ys.map V.str))) := same_new hp
    have ep : (upd H2 p (.lst (ys.map V.str))) p = some (.lst (ys.map V.str)) := upd_same
    generalize upd H2 p (.lst (ys.map V.str)) = H3 at s3 ep hD2
    refine nmp_of (b := badB S S2 A1 B1') (by show 10 < 11; decide) (by have := pm.length_eq; omega) hD2 ep (fun x hx H' Q' s hq => ?_) (fun H4 s4 hbad => ?_)
    · have s5 := s2.trans (s3.trans s)
      have m1 : decide (x ∈ kg (ct T0)) = decide (x ∈ kg S) := decide_eq_decide.mpr (by rw [kg_ct]; exact pkA.mem_iff)
      have m2 : decide (x ∈ kg (ct T1)) = decide (x ∈ kg S2) := decide_eq_decide.mpr (by rw [kg_ct]; exact pkB.mem_iff)
      have hbb : badB S S2 A1 B1' x = ((decide (x ∈ kg S) && decide (x ∈ kg S2)) || decide (9 < sm x)) := by unfold badB; rw [ga, gb]
      have third : ((decide (x ∈ kg S) && decide (x ∈ kg S2)) = false) → tTest (tOp rGtI (tDGet (tVar 4) (tVar 10)) (tC (.int 9))) (([some (V.ref t), some (V.ref u), some (V.ref pp), some (V.ref l), some (V.ref p4), none, none, none, none, none, some (.str x)] : L2.St)) H' Q' := fun hf => by
        refine ⟨_, rfl, _, rfl, p4, _, rfl, .inl ⟨M0.map kvi, .inr x, .inl (s _ _ (s3 _ _ h4)), rfl, (gM0 x (pm.mem_iff.mp hx)).symm⟩, sm x, 9, rfl, rfl, _, rfl, ?_⟩
        rw [hbb, hf] at hq
        exact hq
      refine or_of (A := tAnd (tB (tDIn (tVar 10) (tIX K 0 0))) (tB (tDIn (tVar 10) (tIX K 1 0)))) (B := tTest (tOp rGtI (tDGet (tVar 4) (tVar 10)) (tC (.int 9)))) ?_
      refine ⟨_, rfl, ix_of rfl (s5 _ _ hpp) rfl (s5 _ _ pl0.t) rfl ⟨d0, _, rfl, DGet.k (k := .inr x) (s5 _ _ pl0.d.1), _, rfl, ?_⟩⟩
      rw [isSome_tkv, m1]
      refine ite_of (fun c1 => ?_) (fun c1 => iteF (third (by rw [c1]; rfl)))
      refine ⟨_, rfl, ix_of rfl (s5 _ _ hpp) rfl (s5 _ _ pl1.t) rfl ⟨d1, _, rfl, DGet.k (k := .inr x) (s5 _ _ pl1.d.1), _, rfl, ?_⟩⟩
      rw [isSome_tkv, m2]
      refine ite_of (fun c2 => ?_) (fun c2 => third (by rw [c1, c2]; rfl))
      rw [hbb, c1, c2] at hq
      exact hq
    have s5 := s2.trans (s3.trans s4)
    have h44 := s4 _ _ (s3 _ _ h4)
    -- both
    refine asg_of ?_
    refine ix_of rfl (s5 _ _ hpp) rfl (s5 _ _ pl0.t) rfl ⟨d0, _, rfl, s5 _ _ pl0.d.1, fun H5 r1 ts1 s6 hr1 ht1 nr1 hr1e hP5 => ?_⟩
    have s7 : Same H H5 := s5.trans s6
    refine ix_of rfl (s7 _ _ hpp) rfl (s7 _ _ pl1.t) rfl ⟨d1, _, rfl, s7 _ _ pl1.d.1, fun H6 r2 ts2 s8 hr2 ht2 nr2 hr2e hP6 => ?_⟩
    have s9 : Same H H6 := s7.trans s8
    have lT0 : T0.length = S.length := by
      have := pS.length_eq
      have h5 : (ct T0).length = T0.length := List.length_map _
      omega
    have lT1 : T1.length = S2.length := by
      have := pS2.length_eq
      have h5 : (ct T1).length = T1.length := List.length_map _
      omega
    have l1 : ts1.length = T0.length := by rw [hP5.length, List.length_map]
    have l2 : ts2.length = T1.length := by rw [hP6.length, List.length_map]
    refine ⟨r1, r2, _, _, rfl, rfl, s8 _ _ hr1e, hr2e, by rw [List.length_map, List.length_map, sizeLine_eq]; omega, fun r3 hr3 => ?_⟩
    dsimp only [tNil]
    have okT3 : ∀ {c : Addr} {o : HO}, H6 c = some o → (upd H6 r3 (.lst (ts1.map V.ref ++ ts2.map V.ref))) c = some o := fun {c o} e => by rw [upd_ne (ne_of_none e hr3)]; exact e
    refine ⟨r3, ts1 ++ ts2, T0.map tkv ++ T1.map tkv, rfl, SqL.of (by rw [upd_same, List.map_append]), paired_app2 (paired_imp (fun t q h => SqT.of (okT3 (s8 _ _ h))) hP5) (paired_imp (fun t q h => SqT.of (okT3 h)) hP6), fun pb hpb => ?_⟩
    have s10 : Same H6 (upd (upd H6 r3 (.lst (ts1.map V.ref ++ ts2.map V.ref))) pb (.dK (mergeK [] (T0.map tkv ++ T1.map tkv)))) := (same_new hr3).trans (same_new hpb)
    have hb1 : (upd (upd H6 r3 (.lst (ts1.map V.ref ++ ts2.map V.ref))) pb (.dK (mergeK [] (T0.map tkv ++ T1.map tkv)))) pb = some (.dK (mergeK [] (T0.map tkv ++ T1.map tkv))) := upd_same
    have s11 : Same H4 (upd (upd H6 r3 (.lst (ts1.map V.ref ++ ts2.map V.ref))) pb (.dK (mergeK [] (T0.map tkv ++ T1.map tkv)))) := (show Same H4 H5 from s6).trans ((show Same H5 H6 from s8).trans s10)
    generalize upd (upd H6 r3 (.lst (ts1.map V.ref ++ ts2.map V.ref))) pb (.dK (mergeK [] (T0.map tkv ++ T1.map tkv))) = H7 at s10 hb1 s11
    have s12 : Same H H7 := s5.trans s11
    have h47 := s11 _ _ h44
    have hbad7 := s11 _ _ hbad
    -- many
    refine asg_of ?_
    refine ⟨p4, .dK (M0.map kvi), h47, True.intro, fun od => ?_⟩
    have el : (upd H7 p4 (.frz od (.dK (M0.map kvi)))) p4 = some (.frz od (.dK (M0.map kvi))) := upd_same
    refine ⟨_, rfl, p4, od, rfl, .inl ⟨_, el, fun D3 hD3 => ?_⟩⟩
    have lM : (M0.map kvi).length = xs.length := by rw [List.length_map, ← ks_len, kM0]
    refine prp_of (walk_keys (o := od) (d := p4) (kvs := M0.map kvi)) (ys := xs) (b := fun x => decide (0 < sm x)) (vf := sm) lM (by show 10 < 11; decide) (by omega) hD3 (fun H' s => s _ _ el) (fun i H x H' h => by have := keysI_Y i H x H' h; rwa [kM0] at this) (fun x hx H' Q' s hq => ?_) (fun x hx H' Q' s hq => ?_) (fun ts H8 s13 hd8 hP8 => ?_)
    · exact ⟨_, rfl, _, rfl, p4, _, rfl, .inl ⟨M0.map kvi, .inr x, .inr ⟨od, s _ _ el⟩, rfl, (gM0 x hx).symm⟩, sm x, 0, rfl, rfl, _, rfl, hq⟩
    · exact ⟨_, rfl, _, rfl, p4, _, rfl, .inl ⟨M0.map kvi, .inr x, .inr ⟨od, s _ _ el⟩, rfl, (gM0 x hx).symm⟩, hq⟩
    refine ⟨s13 _ _ el, ?_⟩
    have s14 : Same H7 (upd H8 p4 (.dK (M0.map kvi))) := unlock_same h47 s13
    have kM : ks ((xs.filter fun x => decide (0 < sm x)).map fun x => (x, sm x)) = xs.filter fun x => decide (0 < sm x) := ks_map _ _
    have nM : (ks ((xs.filter fun x => decide (0 < sm x)).map fun x => (x, sm x))).Nodup := by rw [kM]; exact List.Nodup.sublist List.filter_sublist nx
    have gM : ∀ x, get0 ((xs.filter fun x => decide (0 < sm x)).map fun x => (x, sm x)) x = if x ∈ xs.filter (fun x => decide (0 < sm x)) then sm x else 0 := fun x => get0_map (List.Nodup.sublist List.filter_sublist nx) sm x
    have zM : noZ ((xs.filter fun x => decide (0 < sm x)).map fun x => (x, sm x)) := fun q hq => by
      obtain ⟨x, hx, rfl⟩ := List.mem_map.mp hq
      have := of_decide_eq_true (List.mem_filter.mp hx).2
      show sm x ≠ 0
      omega
    generalize ((xs.filter fun x => decide (0 < sm x)).map fun x => (x, sm x)) = M at hP8 kM nM gM zM
    have nD3 : D3 ≠ p4 := fun z => by rw [z, el] at hD3; cases hD3
    have f1 : (upd H8 p4 (.dK (M0.map kvi))) D3 = some (.lst (ts.map V.ref)) := by rw [upd_ne nD3]; exact hd8
    have f2 : Paired (fun (t : Addr) (q : Str × Int) => (upd H8 p4 (.dK (M0.map kvi))) t = some (.tup [.str q.1, .int q.2])) ts M := paired_imp (fun t q h => by
      have : t ≠ p4 := fun z => by rw [z, s13 _ _ el] at h; cases h
      rw [upd_ne this]
      exact h) hP8
    generalize upd H8 p4 (.dK (M0.map kvi)) = H9 at s14 f1 f2
    dsimp only [tNil]
    refine dpi_of f1 f2 nM fun p7 hp7 => ?_
    have s15 : Same H7 (upd H9 p7 (dI M)) := s14.trans (same_new hp7)
    have h7 : (upd H9 p7 (dI M)) p7 = some (dI M) := upd_same
    generalize upd H9 p7 (dI M) = H10 at s15 h7
    have s16 : Same H H10 := s12.trans s15
    have hbad10 := s15 _ _ hbad7
    have hb10 := s15 _ _ hb1
    have pwys := sorted_pairwise so
    -- tried
    refine ⟨_, rfl, _, rfl, t, u, S, S2, A1, B1', rfl, st1.same s16, st2.same s16, lS, lA, fun x hb hlst q H11 hq s17 hx => ?_, fun no r S' SS B' H11 s17 st p1 p2 n1 n2 n3 q hq => ?_⟩
    · refine ⟨q, _, rfl, SqT.of hx, rfl, _, _, rfl, _, _, rfl, rfl, ?_⟩
      have hb11 := s17 _ _ hbad10
      have hxs : x ∈ xs := by
        unfold badB at hb
        rcases Bool.or_eq_true _ _ ▸ hb with h | h
        · rw [Bool.and_eq_true] at h
          exact kS x (of_decide_eq_true h.1)
        · have h9 := of_decide_eq_true h
          by_cases hA : x ∈ ks A1
          · exact kA x hA
          · refine kB x (Classical.byContradiction fun hn => ?_)
            rw [get0_none hA, get0_none hn] at h9
            omega
      have hxm : x ∈ ys.filter (badB S S2 A1 B1') := List.mem_filter.mpr ⟨pm.mem_iff.mpr hxs, hb⟩
      obtain ⟨x0, rest, e0'⟩ : ∃ x0 rest, ys.filter (badB S S2 A1 B1') = x0 :: rest := by
        cases h : ys.filter (badB S S2 A1 B1') with
        | nil => rw [h] at hxm; cases hxm
        | cons a b => exact ⟨a, b, rfl⟩
      have ex0 : x0 = x := by
        have pf : (x0 :: rest).Pairwise leS := by rw [← e0']; exact pwys.filter _
        have b0 : badB S S2 A1 B1' x0 = true := (List.mem_filter.mp (show x0 ∈ ys.filter (badB S S2 A1 B1') by rw [e0']; exact List.mem_cons_self)).2
        rw [e0'] at hxm
        rcases List.mem_cons.mp hxm with h | h
        · exact h.symm
        · exact leS_anti _ _ ((List.pairwise_cons.mp pf).1 x h) (hlst x0 b0)
      subst ex0
      rw [e0'] at hb11
      have ox : okStr x0 := by
        have hn : nameB x0 = true := by
          unfold badB at hb
          rcases Bool.or_eq_true _ _ ▸ hb with h | h
          · rw [Bool.and_eq_true] at h
            obtain ⟨p, hp, rfl⟩ := List.mem_map.mp (of_decide_eq_true h.1)
            exact (oS.ns p hp).1
          · have h9 := of_decide_eq_true h
            by_cases hA : x0 ∈ ks A1
            · obtain ⟨p, hp, rfl⟩ := List.mem_map.mp hA
              exact (oS.nb p hp).1
            · by_cases hB : x0 ∈ ks B1'
              · obtain ⟨p, hp, rfl⟩ := List.mem_map.mp hB
                exact (oS2.nb p hp).1
              · rw [get0_none hA, get0_none hB] at h9
                omega
        exact okStr_name hn
      have at0 : atI ((x0 :: rest).map V.str) 0 = some (V.str x0) := atI_nat (xs := (x0 :: rest).map V.str) (j := 0) rfl
      refine nxs_of (ifs_of ⟨_, rfl, (by show 0 ≤ sizeLine; decide), fun z hz => ?_⟩)
      have hb12 := same_new (o := .lst []) hz _ _ hb11
      refine ⟨D2, z, _, rfl, rfl, SqL.of hb12, SqL.of upd_same, _, rfl, iteT ?_⟩
      refine ⟨_, rfl, _, rfl, (by show 2 ≤ sizeLine; decide), fun z2 hz2 => ?_⟩
      have hb13 := same_new (o := .tup [.str "overlap", .str x0]) hz2 _ _ hb12
      refine ⟨_, rfl, D2, _, 0, .str x0, rfl, rfl, SqL.of hb13, at0, (by show 2 ≤ sizeLine; decide), fun z3 hz3 => ?_⟩
      have okA : ∀ y ∈ [("overlap" : Str), x0], okStr y := fun y hy => by
        rcases List.mem_cons.mp hy with h | h
        · rw [h]
          unfold okStr
          decide +kernel
        · rw [List.mem_singleton.mp h]
          exact ox
      refine ⟨.tuple ([("overlap" : Str), x0].map PyData.str), .tuple ([("overlap" : Str), x0].map PyData.str), .tup (SqT.of (same_new hz3 _ _ upd_same)) (dpAll_strs [("overlap" : Str), x0]), .tup (SqT.of upd_same) (dpAll_strs [("overlap" : Str), x0]), shaped_strs _ okA, shaped_strs _ okA, ?_⟩
      rw [eqv_strs, decide_eq_true rfl]
      exact k _ (s16.trans (s17.trans ((same_new hz).trans ((same_new hz2).trans (same_new hz3)))))
    · refine ⟨q, _, rfl, SqT.of upd_same, rfl, _, _, rfl, _, _, rfl, rfl, ?_⟩
      have s18 := s17.trans (same_new (o := .tup [.str "told", .ref r]) hq)
      have st' := st.same (same_new (o := .tup [.str "told", .ref r]) hq)
      generalize upd H11 q (.tup [.str "told", .ref r]) = H12 at s18 st'
      have s19 : Same H H12 := s16.trans s18
      have enil : ys.filter (badB S S2 A1 B1') = [] := List.filter_eq_nil_iff.mpr fun y _ => by rw [no y]; exact Bool.false_ne_true
      have hb12 := s18 _ _ hbad10
      rw [enil] at hb12
      refine nxs_of (ifs_of ⟨_, rfl, (by show 0 ≤ sizeLine; decide), fun z hz => ?_⟩)
      refine ⟨D2, z, _, rfl, rfl, SqL.of (same_new hz _ _ hb12), SqL.of upd_same, _, rfl, iteF (nx_of ?_)⟩
      have s20 : Same H (upd H12 z (.lst [])) := s19.trans (same_new hz)
      have st2' := st'.same (same_new (o := .lst []) hz)
      have hb13 := same_new (o := .lst []) hz _ _ (s18 _ _ hb10)
      have h713 := same_new (o := .lst []) hz _ _ (s18 _ _ h7)
      generalize upd H12 z (.lst []) = H13 at s20 st2' hb13 h713
      -- the join's plan
      have ap : ∀ x, x ∈ T1.map (·.1) → x ∉ T0.map (·.1) := fun x hx hx2 => by
        have := no x
        unfold badB at this
        rw [decide_eq_true (pkB.mem_iff.mp hx), decide_eq_true (pkA.mem_iff.mp hx2)] at this
        cases this
      have nT0 : (T0.map (·.1)).Nodup := pkA.nodup_iff.mpr oS.cs.nd
      have nT1 : (T1.map (·.1)).Nodup := pkB.nodup_iff.mpr oS2.cs.nd
      have emk : mergeK [] (T0.map tkv ++ T1.map tkv) = (T0 ++ T1).map tkv := by
        rw [← List.map_append, mergeK_apart _ [] (fun k _ hm => absurd hm List.not_mem_nil) ?_]
        · rfl
        · rw [keys_tkv, kg_ct, List.map_append]
          exact inr_nodup (List.nodup_append.mpr ⟨nT0, nT1, fun a ha b hb e => ap b hb (e ▸ ha)⟩)
      rw [emk] at hb13
      have plz : ∀ {qz : Addr} {H14 : Hp}, Same H13 H14 → H14 qz = some (.tup [.ref pb, .ref p7]) → PlanAt H14 qz pb p7 (T0 ++ T1) M := fun {qz H14} s hqz => ⟨hqz, ⟨s _ _ hb13, fun u hu => by
        rcases List.mem_append.mp hu with h | h
        · exact s _ _ (s20 _ _ (pl0.d.2 u h))
        · exact s _ _ (s20 _ _ (pl1.d.2 u h))⟩, s _ _ h713⟩
      have pS' : S'.Perm (ct (T0 ++ T1)) := by
        have : ct (T0 ++ T1) = ct T0 ++ ct T1 := List.map_append
        rw [this]
        exact p1.trans (pS.append pS2)
      have zSS : noZ SS := fun q hq => by
        have hk : q.1 ∈ ks SS := List.mem_map.mpr ⟨q, hq, rfl⟩
        have e1 : get0 SS q.1 = q.2 := by
          unfold get0
          rw [get?_of n1 (show (q.1, q.2) ∈ SS from hq)]
          rfl
        have a1 := get0_pos nA (fun b hb => (oS.nb b hb).2.1) q.1
        have a2 := get0_pos nB (fun b hb => (oS2.nb b hb).2.1) q.1
        have e2 := n3 q.1
        rw [e1] at e2
        rcases (n2 q.1).mp hk with h | h
        · have := a1.2 h
          omega
        · have := a2.2 h
          omega
      have pB' : B'.Perm M := p2.trans (perm_of_get0 n1 nM zSS zM fun x => by
        rw [n3, gM, ga, gb]
        have a1 := get0_pos nA (fun b hb => (oS.nb b hb).2.1) x
        have a2 := get0_pos nB (fun b hb => (oS2.nb b hb).2.1) x
        rw [ga] at a1
        rw [gb] at a2
        by_cases hx : x ∈ xs.filter fun x => decide (0 < sm x)
        · rw [if_pos hx]
        · rw [if_neg hx]
          have hxx : ¬ 0 < get0 B0 x + get0 B1 x := fun h => by
            refine hx (List.mem_filter.mpr ⟨?_, decide_eq_true h⟩)
            by_cases hA : x ∈ ks A1
            · exact kA x hA
            · refine kB x (Classical.byContradiction fun hn => ?_)
              have c1 := get0_none hA
              have c2 := get0_none hn
              rw [ga] at c1
              rw [gb] at c2
              omega
          omega)
      have oS' : SOk S' B' := let ⟨_, _, _, _, _, _, o, _⟩ := st; o
      refine ⟨_, rfl, rfl, _, rfl, iteT ?_⟩
      refine ⟨_, rfl, _, rfl, _, rfl, (by show 2 ≤ sizeLine; decide), fun qz hqz => ?_⟩
      refine ⟨r, qz, pb, p7, S', B', T0 ++ T1, M, rfl, st2'.same (same_new hqz), plz (same_new hqz) upd_same, pS', pB', fun H14 s21 => ⟨_, rfl, iteT ?_⟩⟩
      have s22 : Same H13 H14 := (same_new hqz).trans s21
      obtain ⟨dr, _, _, _, ⟨hrr, _, _⟩, _⟩ := id (st2'.same s22)
      refine ⟨_, rfl, r, dr, _, rfl, hrr, rfl, r, S', B', rfl, st2'.same s22, fun H15 s23 => ?_⟩
      have s24 := s22.trans s23
      refine ⟨_, rfl, _, rfl, (by show 2 ≤ sizeLine; decide), fun qy hqy => ?_⟩
      refine ⟨qy, pb, p7, T0 ++ T1, M, S', B', rfl, plz (s24.trans (same_new hqy)) upd_same, oS', pS', pB', fun H16 s25 => ?_⟩
      refine ⟨rfl, ?_⟩
      rw [decide_eq_true rfl]
      exact k _ (s20.trans (s24.trans ((same_new hqy).trans s25)))
end
end Lw
/-! ## LwL -/
set_option Elab.async false
set_option linter.all false
set_option maxRecDepth 100000
set_option maxHeartbeats 8000000
set_option pp.deepTerms false
set_option pp.deepTerms.threshold 3
set_option pp.maxSteps 500
namespace Lw
open PySem PySem.Spec PyProof.Rows L2 Sl
structure Top03 (P : Program) (w : World) (K : PySem.W.Frag) (mg : Str → Option Value) (base : Heap) (C a0 : Addr) : Prop where
  src : Cal P w K mg base 1 "_law_source" [] (sp_source K)
  drw : Cal P w K mg base 1 "_law_draw" [] sp_draw
  nms : Cal P w K mg base 3 "_law_names" [] (sp_names K)
  plan : Cal P w K mg base 4 "_law_plan" [] (sp_plan K)
  due : Cal P w K mg base 1 "_law_due" [] sp_due
  right : Cal P w K mg base 2 "_law_is_right" [] (sp_isright C)
  join : Cal P w K mg base 8 "_law_join_right" [] (sp_joinright K C)
  stm : StmF P w K mg base C a0
  M : Meths P w K mg base C
  oeq : OwnF P w K mg base C 1 "__eq__" (sp_seq K C)
  one : PySem.W.findIn K (.ref C) "__ne__" = some (some (.builtin "object.__ne__"))
  osubc : PySem.W.subIn K (.ref C) (.type "object") = some true
  nft : PySem.W.notFirst K C (.type "tuple") = true
  kitt : PySem.W.kitOne K (.type "tuple") (.ref C) = some false
  mD : mg "dict" = none
  mL : mg "list" = none
section
variable {P : Program} {w : World} {K : PySem.W.Frag} {mg : Str → Option Value} {base : Heap} {f : Addr} {fd : FuncData} {C CO a0 : Addr}
abbrev lawN : List Str := ["_law_script", "_law_source_here", "_law_kinds", "_law_plans", "_law_way", "_law_left", "_law_turns", "_law_brings", "_law_one", "_law_other", "_law_kind", "_law_same"]
abbrev tI3 (K : PySem.W.Frag) (i j : Int) : TE := tOp (rIxT K) (tOp (rIxL K) (tVar 3) (tC (.int i))) (tC (.int j))
theorem ix3_of {σ : L2.St} {H : Hp} {Q : VK} {lp t : Addr} {ys zs : List V} {i j : Int} {v : V} (h2 : σ[3]? = some (some (.ref lp))) (hl : H lp = some (.lst ys)) (hi : atI ys i = some (.ref t)) (ht : H t = some (.tup zs)) (hj : atI zs j = some v) (k : Q v H) : tI3 K i j σ H Q :=
  ⟨_, h2, lp, ys, i, _, rfl, rfl, SqL.of hl, hi, t, zs, j, v, rfl, rfl, SqT.of ht, hj, k⟩
theorem ixl_of {σ : L2.St} {H : Hp} {Q : VK} {lp : Addr} {ys : List V} {i : Int} {v : V} (h2 : σ[3]? = some (some (.ref lp))) (hl : H lp = some (.lst ys)) (hi : atI ys i = some v) (k : Q v H) : tOp (rIxL K) (tVar 3) (tC (.int i)) σ H Q := ⟨_, h2, lp, ys, i, _, rfl, rfl, SqL.of hl, hi, k⟩
/-- a plan that may stand -/
structure Okp (xs : List Str) (T : TT') (B : NI) : Prop where
  kT : ∀ x ∈ T.map (·.1), x ∈ xs
  nT : (T.map (·.1)).Nodup
  lT : T.length ≤ 4
  wT : ∀ u ∈ T, u.2.2.length ≤ 3 ∧ ∀ z ∈ u.2.2, nameB z = true
  nB : (ks B).Nodup
  kB : ∀ b ∈ B, b.1 ∈ xs ∧ 1 ≤ b.2 ∧ b.2 ≤ 9
  lB : B.length ≤ 4
theorem okp_of {xs : List Str} {T : TT'} {B : NI} (o : PlanOk xs T B) (nx : xs.Nodup) (l4 : xs.length = 4) (nm : ∀ z ∈ xs, nameB z = true) : Okp xs T B := by
  obtain ⟨o1, o2, o3, o4, o5, o6⟩ := o
  have hl := o1.length_le
  rw [List.length_map] at hl
  exact ⟨fun x hx => o1.subset hx, List.Nodup.sublist o1 nx, by omega, fun u hu => ⟨(o3 u hu).1, fun z hz => nm z ((o3 u hu).2 z hz)⟩, o4, o5, by omega⟩
theorem Okp.okT {xs : List Str} {T : TT'} {B : NI} (o : Okp xs T B) (nm : ∀ z ∈ xs, nameB z = true) : okT T := ⟨o.nT, fun t ht => nm _ (o.kT _ (List.mem_map.mpr ⟨t, ht, rfl⟩)), by have := o.lT; omega⟩
theorem Okp.okB {xs : List Str} {T : TT'} {B : NI} (o : Okp xs T B) (nm : ∀ z ∈ xs, nameB z = true) : Lw.okB B := ⟨o.nB, fun b hb => nm _ (o.kB b hb).1, fun b hb => (o.kB b hb).2, by have := o.lB; omega⟩
theorem Okp.rev {xs : List Str} {T : TT'} {B : NI} (o : Okp xs T B) : Okp xs T.reverse B :=
  ⟨fun x hx => o.kT x (by rw [List.map_reverse, List.mem_reverse] at hx; exact hx), by rw [List.map_reverse]; exact (List.reverse_perm _).nodup_iff.mpr o.nT, by rw [List.length_reverse]; exact o.lT, fun u hu => o.wT u (List.mem_reverse.mp hu), o.nB, o.kB, o.lB⟩
/-- a plan away from the source -/
structure PA (p : Addr) (H : Hp) (q d e : Addr) (T : TT') (B : NI) : Prop where
  at_ : PlanAt H q d e T B
  nq : q ≠ p
  nd : d ≠ p
  ne : e ≠ p
  nt : ∀ u ∈ T, u.2.1 ≠ p
theorem PA.keep {p : Addr} {H H' : Hp} {q d e : Addr} {T : TT'} {B : NI} (h : PA p H q d e T B) (k : Keep p H H') : PA p H' q d e T B :=
  ⟨⟨k _ _ h.nq h.at_.t, ⟨k _ _ h.nd h.at_.d.1, fun u hu => k _ _ (h.nt u hu) (h.at_.d.2 u hu)⟩, k _ _ h.ne h.at_.e⟩, h.nq, h.nd, h.ne, h.nt⟩
theorem PA.put {p pp : Addr} {H : Hp} {q d e : Addr} {T : TT'} {B : NI} {zs : List V} {o : HO} (h : PA p H q d e T B) (hp : H pp = some (.lst zs)) (n : ∀ u ∈ T, u.2.1 ≠ pp) : PA p (upd H pp o) q d e T B := by
  have n1 : q ≠ pp := fun z => by have := h.at_.t; rw [z, hp] at this; cases this
  have n2 : d ≠ pp := fun z => by have := h.at_.d.1; rw [z, hp] at this; cases this
  have n3 : e ≠ pp := fun z => by have := h.at_.e; rw [z, hp] at this; cases this
  exact ⟨⟨by rw [upd_ne n1]; exact h.at_.t, ⟨by rw [upd_ne n2]; exact h.at_.d.1, fun u hu => by rw [upd_ne (n u hu)]; exact h.at_.d.2 u hu⟩, by rw [upd_ne n3]; exact h.at_.e⟩, h.nq, h.nd, h.ne, h.nt⟩
theorem PA.same {p : Addr} {H H' : Hp} {q d e : Addr} {T : TT'} {B : NI} (h : PA p H q d e T B) (k : Same H H') : PA p H' q d e T B := h.keep fun c o _ e => k c o e
theorem TAt.of {H : Hp} {d : Addr} {T : TT'} {xs : List Str} {B : NI} (h : TurnsAt H d T) (o : Okp xs T B) : TAt H T := fun u hu => ⟨.inl (h.2 u hu), o.wT u hu⟩
theorem paired_rev {α β : Type} {R : α → β → Prop} : ∀ {xs : List α} {us : List β}, Paired R xs us → Paired R xs.reverse us.reverse
  | _, _, .nil => .nil
  | _, _, .cons r t => by
    rw [List.reverse_cons, List.reverse_cons]
    exact paired_app2 (paired_rev t) (.cons r .nil)
theorem keep_put {p q : Addr} {H H0 H' : Hp} {o : HO} (k : Keep p H H') (h : H q = none) : Keep p H (upd H' q o) := fun c u n e => by
  rw [upd_ne (ne_of_none e h)]
  exact k c u n e
theorem smake_x {H1 : Hp} {Qx : Hp → Prop} {E : XK} {x dx a b : Addr} {T : TT'} {B : NI} (hx : H1 x = none) (hdx : H1 dx = none) (ne : dx ≠ x) (ha : PArg K H1 a (T.map tkv)) (hT : TAt H1 T) (oT : okT T) (hb : PArg K H1 b (B.map kvi)) (oB : okB B) (lT : T.length ≤ 8) (lB : B.length ≤ 8)
    (k : ∀ H' S' B', Same H1 H' → StmFr H1 H' C x S' B' → S'.Perm (ct T) → B'.Perm B → Qx H') : sp_sinit K C [.ref x, .ref a, .ref b] (upd (upd H1 dx (.own x)) x (.ins C dx [])) (fun v H2 => v = .non ∧ Qx H2) E := by
  have s0 : Same H1 (upd (upd H1 dx (.own x)) x (.ins C dx [])) := fun c o e => by
    rw [upd_ne (ne_of_none e hx), upd_ne (ne_of_none e hdx)]
    exact e
  exact ⟨x, dx, a, b, T, B, rfl, upd_same, ha.same s0, hT.same s0, oT, hb.same s0, oB, lT, lB, fun H' S' B' kp st p1 p2 => ⟨rfl, k H' S' B' (fun c o e => kp c o (ne_of_none e hx) (s0 c o e)) (st.old fun c h => free_same s0 h) p1 p2⟩⟩
theorem same_put {H H' : Hp} {d : Addr} {o : HO} (s : Same H H') (h : H d = none) : Same H (upd H' d o) := fun c u e => by
  rw [upd_ne (ne_of_none e h)]
  exact s _ _ e
theorem eqG_perm2 {A A' B B' : CT} (hA : A.Perm A') (hB : B.Perm B') (nA : (kg A).Nodup) (nB : (kg B).Nodup) : eqG A B = eqG A' B' := by
  refine Bool.eq_iff_iff.mpr ?_
  rw [eqG_iff nA nB, eqG_iff ((kg_perm hA).nodup_iff.mp nA) ((kg_perm hB).nodup_iff.mp nB)]
  exact forall_congr' fun x => by rw [gl_perm hA nA, gl_perm hB nB]
theorem eqI_perm2 {A A' B B' : NI} (hA : A.Perm A') (hB : B.Perm B') (nA : (ks A).Nodup) (nB : (ks B).Nodup) : eqI A B = eqI A' B' := by
  refine Bool.eq_iff_iff.mpr ?_
  rw [eqI_iff nA nB, eqI_iff ((ks_perm hA).nodup_iff.mp nA) ((ks_perm hB).nodup_iff.mp nB)]
  exact forall_congr' fun x => by rw [show get? A x = get? A' x from gl_perm (α := Int) hA nA x, show get? B x = get? B' x from gl_perm (α := Int) hB nB x]
theorem ins_of {H : Hp} {t : Addr} {S : CT} {B : NI} (h : StmAt H C t S B) : ∃ (dx : Addr) (fs : List (Str × V)), H t = some (.ins C dx fs) ∧ ∀ m : Str, m ≠ "_turns" → m ≠ "_brings" → fs.lookup m = none := by
  obtain ⟨dx, d, e, T, ⟨ht, _, _⟩, _⟩ := h
  refine ⟨dx, _, ht, fun m h1 h2 => ?_⟩
  rw [List.lookup_cons, List.lookup_cons]
  have e1 : (m == "_turns") = false := by simpa using h1
  have e2 : (m == "_brings") = false := by simpa using h2
  rw [e1, e2]
  rfl
def sp_law (K : PySem.W.Frag) : Sp := fun vs H Q _ => ∃ (a : Addr) (ns : List Int), vs = [.ref a] ∧ SqL K H a (ns.map V.int) ∧ ns.length ≤ 63 ∧ ∀ H', Q (.bl true) H'
theorem ok_law (F : FnP K "law" s_law [] f fd) (T : Top03 P w K mg base C a0) : FnOk P w K mg base CX0 9 f fd ["_law_script"] (sp_law K) := by
  refine F.ok sc_law (fun vs H Q E h => ?_) (fun cdv A outer s H vs Q E hr h => ?_)
  · obtain ⟨a, ns, rfl, _⟩ := h
    rfl
  · obtain ⟨a, ns, rfl, hS, hlen, k⟩ := h
    have nd := sc_law.nd
    have hu := hu_of hr
    have hu' := Nat.lt_of_succ_lt hu
    have hu2 : (A.deeper (envOfC "law" (defScope s_law) s.heap.objs.size f cdv)).units + 256 < cLine := by have := hr.un; omega
    have hr1 : Room 1 (A.deeper (envOfC "law" (defScope s_law) s.heap.objs.size f cdv)) := hr.mono (by decide)
    have hr2 : Room 2 (A.deeper (envOfC "law" (defScope s_law) s.heap.objs.size f cdv)) := hr.mono (by decide)
    have hr3 : Room 3 (A.deeper (envOfC "law" (defScope s_law) s.heap.objs.size f cdv)) := hr.mono (by decide)
    have hr4 : Room 4 (A.deeper (envOfC "law" (defScope s_law) s.heap.objs.size f cdv)) := hr.mono (by decide)
    have hr5 : Room 5 (A.deeper (envOfC "law" (defScope s_law) s.heap.objs.size f cdv)) := hr.mono (by decide)
    have cl := T.stm.T.cl
    have TC := T.stm.T
    refine ⟨_, PSs.nox (pss_cons (ps_set (i := 1) nd rfl (.inl rfl) (pe_cal T.src hr1 (pa_cons (pv 0) pa_nil)))
      (pss_cons (ps_set (i := 2) nd rfl (.inl rfl) (pe_cal T.nms hr3 (pa_cons (pv 1) (pa_cons pe_int pa_nil))))
      (pss_cons (ps_set (i := 3) nd rfl (.inr rfl) (pe_lst (pa_cons (pe_cal T.plan hr4 (pa_cons (pv 1) (pa_cons (pv 2) pa_nil))) (pa_cons (pe_cal T.plan hr4 (pa_cons (pv 1) (pa_cons (pv 2) pa_nil))) pa_nil))))
      (pss_cons (ps_set (i := 4) nd rfl (.inl rfl) (pe_cal T.drw hr1 (pa_cons (pv 1) (pa_cons pe_int pa_nil))))
      (pss_cons (ps_if (pt_cmpR op_eq (pv 4) pe_int (nomark _)) (pss_one (ps_asg (pe_tup (pa_cons (pe_callTy (r := rDP K) (call_dictP rfl) (by rfl) T.mD PyProof.Rows.Boot.«dict» (pa_cons (pe_revL (LiI.pe_listItems rfl (pe_ix (r := rIxT K) ix_tup (pe_ix (r := rIxL K) ix_list (pv 3) pe_int (fun _ _ => rfl)) pe_int (fun _ _ => rfl)) (by rfl) T.mL PyProof.Rows.Boot.«list»)) pa_nil))
          (pa_cons (pe_callTy call_dictD (by rfl) T.mD PyProof.Rows.Boot.«dict» (pa_cons (pe_ix (r := rIxT K) ix_tup (pe_ix (r := rIxL K) ix_list (pv 3) pe_int (fun _ _ => rfl)) pe_int (fun _ _ => rfl)) pa_nil)) pa_nil))) (pg_sub (pv 3) pe_int set_list))) pss_nil)
      (pss_cons (ps_if (pt_cmpR op_eq (pv 4) pe_int (nomark _))
          (pss_cons (ps_setLc (i := 5) (own := [("_law_kind", 10)]) (g := gName 10) (tt := tB (tDNotIn (tVar 10) (tI3 K 0 0))) (te := tVar 10) rfl nd rfl rfl (sw_true rfl rfl rfl (by decide +kernel)) (pi_list (pv 2)) (blkOk_by (N := lawN) (sc := defScope s_law) (by decide +kernel))
            (fun _ _ _ _ _ => pg_name (i := 10) nd rfl (Or.inl rfl)) (fun _ _ _ _ _ => pts_one (pt_cmp (pc_dnotin hu (pv 10) (pe_ix ix_tup (pe_ix ix_list (pv 3) pe_int (fun _ _ => rfl)) pe_int (fun _ _ => rfl))))) (fun _ _ _ _ _ => pv 10))
          (pss_one (ps_asg (pe_tup (pa_cons (pe_callTy (r := rDP K) (call_dictP rfl) (by rfl) T.mD PyProof.Rows.Boot.«dict» (pa_cons (pe_lc (own := [("_law_kind", 10)]) (g := gName 10) (tt := tYes) (te := tTup (tCons (tVar 10) (tCons (tLst (tCons (tVar 10) tNil)) tNil))) rfl nd (pi_list (pv 5)) (blkOk_by (N := lawN) (sc := defScope s_law) (by decide +kernel))
              (fun _ _ _ _ _ => pg_name (i := 10) nd rfl (Or.inl rfl)) (fun _ _ _ _ _ => pts_nil) (fun _ _ _ _ _ => pe_tup (pa_cons (pv 10) (pa_cons (pe_lst (pa_cons (pv 10) pa_nil)) pa_nil)))) pa_nil))
            (pa_cons (pe_disp (pps_cons (pe_ix (r := rIxL K) ix_list (pv 2) pe_int (fun _ _ => rfl)) (pe_op op_add pe_int (pe_cal T.drw hr1 (pa_cons (pv 1) (pa_cons pe_int pa_nil)))) pps_nil) rfl rfl (by decide) (by decide)) pa_nil))) (pg_sub (pv 3) pe_int set_list)))) pss_nil)
      (pss_cons (ps_set (i := 6) nd rfl (.inl rfl) (pe_callTy (r := rDP K) (call_dictP rfl) (by rfl) T.mD PyProof.Rows.Boot.«dict» (pa_cons (pe_lock (pe_lc (own := [("_law_kind", 10)]) (g := gName 10) (tt := tYes) (te := tTup (tCons (tVar 10) (tCons (tCB (rLO K) (tCons (tDGet (tI3 K 0 0) (tVar 10)) tNil)) tNil))) rfl nd (pi_keys (pe_ix (r := rIxT K) ix_tup (pe_ix (r := rIxL K) ix_list (pv 3) pe_int (fun _ _ => rfl)) pe_int (fun _ _ => rfl))) (blkOk_by (N := lawN) (sc := defScope s_law) (by decide +kernel))
          (fun _ _ _ _ _ => pg_name (i := 10) nd rfl (Or.inl rfl)) (fun _ _ _ _ _ => pts_nil) (fun _ _ _ _ _ => pe_tup (pa_cons (pv 10) (pa_cons (pe_callTy (r := rLO K) call_list_of (by rfl) T.mL PyProof.Rows.Boot.«list» (pa_cons (pe_dget hu (pe_ix ix_tup (pe_ix ix_list (pv 3) pe_int (fun _ _ => rfl)) pe_int (fun _ _ => rfl)) (pv 10) (fun _ _ => rfl)) pa_nil)) pa_nil))))) pa_nil)))
      (pss_cons (ps_set (i := 7) nd rfl (.inl rfl) (pe_callTy call_dictD (by rfl) T.mD PyProof.Rows.Boot.«dict» (pa_cons (pe_ix (r := rIxT K) ix_tup (pe_ix (r := rIxL K) ix_list (pv 3) pe_int (fun _ _ => rfl)) pe_int (fun _ _ => rfl)) pa_nil)))
      (pss_cons (ps_par (i := 8) (j := 9) (by rfl) nd rfl rfl (by decide) rfl rfl (pa_cons (pe_stm2 T.stm hr5 (pa_cons (pv 6) (pa_cons (pv 7) pa_nil))) (pa_cons (pe_stm2 T.stm hr5 (pa_cons (pe_ix (r := rIxT K) ix_tup (pe_ix (r := rIxL K) ix_list (pv 3) pe_int (fun _ _ => rfl)) pe_int (fun _ _ => rfl)) (pa_cons (pe_ix (r := rIxT K) ix_tup (pe_ix (r := rIxL K) ix_list (pv 3) pe_int (fun _ _ => rfl)) pe_int (fun _ _ => rfl)) pa_nil))) pa_nil)) (by rfl))
      (pss_cons (ps_lock (ps_for PassesOwn.never rfl (pi_keys (pv 6)) (pg_name (i := 10) nd rfl (Or.inl rfl)) (pss_one (ps_expr (pe_bm PySem.F.plainAttrs_list PySem.F.slot_list_append PySem.F.type_list_append mt_append (pe_dget hu (pv 6) (pv 10) (fun _ _ => rfl)) (pa_cons pe_str pa_nil))))))
      (pss_cons (ps_dput hu (pv 6) pe_str (pe_lst pa_nil) rfl)
      (pss_cons (ps_expr (pe_dclear (pv 7)))
      (pss_cons (ps_if (PW.pt (pw_or (pt_not (pt_val (pe_cal T.right hr2 (pa_cons (pv 8) (pa_cons (pe_ix (r := rIxL K) ix_list (pv 3) pe_int (fun _ _ => rfl)) pa_nil))))) (pw_or1 (pt_not (pt_val (pe_cal T.right hr2 (pa_cons (pv 9) (pa_cons (pe_ix (r := rIxL K) ix_list (pv 3) pe_int (fun _ _ => rfl)) pa_nil)))))))) (pss_one ps_never) pss_nil)
      (pss_cons (ps_expr (pe_dclear (pe_me0 T.M.turns cl hr1 (pv 8))))
      (pss_cons (ps_expr (pe_bm PySem.F.plainAttrs_list PySem.F.slot_list_append PySem.F.type_list_append mt_append (pe_me0 T.M.reads cl hr1 (pv 8)) (pa_cons pe_str pa_nil)))
      (pss_cons (ps_set (i := 11) nd rfl (.inl rfl) (pe_cmpR (op_eqDue hu2) (pe_cal T.due hr1 (pa_cons (pe_ix (r := rIxL K) ix_list (pv 3) pe_int (fun _ _ => rfl)) pa_nil)) (pe_cal T.due hr1 (pa_cons (pe_ix (r := rIxL K) ix_list (pv 3) pe_int (fun _ _ => rfl)) pa_nil)) (nomark _)))
      (pss_cons (ps_if (PW.pt (pw_or (pt_cmpR op_ne (pe_cmpR (op_oeq T.oeq hr1) (pv 8) (pv 9) (nomark _)) (pv 11) (nomark _)) (pw_or (pt_cmpR op_eq (pe_cmpR (op_one T.oeq T.one T.osubc hr2) (pv 8) (pv 9) (nomark _)) (pv 11) (nomark _)) (pw_or (pt_cmpR (op_oeq T.oeq hr1) (pv 8) (pe_ix (r := rIxL K) ix_list (pv 3) pe_int (fun _ _ => rfl)) (nomark _))
          (pw_or1 (pt_not (pt_val (pe_cal T.right hr2 (pa_cons (pv 8) (pa_cons (pe_ix (r := rIxL K) ix_list (pv 3) pe_int (fun _ _ => rfl)) pa_nil)))))))))) (pss_one ps_never) pss_nil)
      (pss_cons (ps_if (PW.pt (pw_or (pt_cmpR (op_one T.oeq T.one T.osubc hr2) (pe_stm2 T.stm hr5 (pa_cons (pe_ix (r := rIxT K) ix_tup (pe_ix (r := rIxL K) ix_list (pv 3) pe_int (fun _ _ => rfl)) pe_int (fun _ _ => rfl)) (pa_cons (pe_tup pa_nil) pa_nil))) (pe_stm1 T.stm hr5 (pa_cons (pe_ix (r := rIxT K) ix_tup (pe_ix (r := rIxL K) ix_list (pv 3) pe_int (fun _ _ => rfl)) pe_int (fun _ _ => rfl)) pa_nil)) (nomark _))
          (pw_or1 (pt_cmpR (op_one T.oeq T.one T.osubc hr2) (pe_stm2 T.stm hr5 (pa_cons pe_dnewK (pa_cons (pe_tup pa_nil) pa_nil))) (pe_stm2 T.stm hr5 (pa_cons pe_dnewK (pa_cons pe_dnewK pa_nil))) (nomark _))))) (pss_one ps_never) pss_nil)
      (pss_cons (ps_if (PW.pt (pw_or (pt_not (pt_val (pe_cal T.join hr (pa_cons (pv 8) (pa_cons (pv 9) (pa_cons (pv 3) (pa_cons (pv 2) pa_nil))))))) (pw_or1 (pt_not (pt_val (pe_cal T.join hr (pa_cons (pv 8) (pa_cons (pv 9) (pa_cons (pv 3) (pa_cons (pv 2) pa_nil)))))))))) (pss_one ps_never) pss_nil)
      (pss_one (ps_ret (pe_and (pe_cal T.right hr2 (pa_cons (pv 8) (pa_cons (pe_ix (r := rIxL K) ix_list (pv 3) pe_int (fun _ _ => rfl)) pa_nil))) (pe_one (pe_cal T.right hr2 (pa_cons (pv 9) (pa_cons (pe_ix (r := rIxL K) ix_list (pv 3) pe_int (fun _ _ => rfl)) pa_nil)))))))))))))))))))))))))), ?_⟩
    refine ⟨_, rfl, a, ns, rfl, hS, hlen, fun p H1 hp hs0 ks0 => ?_⟩
    refine nxs_of (asg_of ?_)
    refine ⟨_, rfl, p, 4, 0, rfl, hs0, by decide, by decide, fun l xs H2 l4 nx drx hl hle hs1 kp1 => ?_⟩
    have nm : ∀ z ∈ xs, nameB z = true := fun z hz => (drx z hz).1
    have nlp := hs0.ne_new hl
    refine asg_of ?_
    refine ⟨_, rfl, _, rfl, p, l, xs, 40, rfl, hs1, by decide, SqL.of hle, nlp, by omega, by omega, nx, fun q0 d0 e0 T0 B0 H3 po0 hq0 hd0 he0 hT0 _ ht0 htt0 hbe0 hs2 kp2 => ?_⟩
    refine ⟨_, rfl, _, rfl, p, l, xs, 140, rfl, hs2, by decide, SqL.of (kp2 _ _ nlp hle), nlp, by omega, by omega, nx, fun q1 d1 e1 T1 B1 H4 po1 hq1 hd1 he1 hT1 _ ht1 htt1 hbe1 hs3 kp3 => ?_⟩
    refine ⟨(by show 2 ≤ sizeLine; decide), fun pp hpp => ?_⟩
    have ok0 := okp_of po0 nx l4 nm
    have ok1 := okp_of po1 nx l4 nm
    have pa0 : PA p H3 q0 d0 e0 T0 B0 := ⟨⟨ht0, htt0, hbe0⟩, hs1.ne_new hq0, hs1.ne_new hd0, hs1.ne_new he0, fun u hu => hs1.ne_new (hT0 u hu)⟩
    have pa1 : PA p H4 q1 d1 e1 T1 B1 := ⟨⟨ht1, htt1, hbe1⟩, hs2.ne_new hq1, hs2.ne_new hd1, hs2.ne_new he1, fun u hu => hs2.ne_new (hT1 u hu)⟩
    have k5 : Keep p H4 (upd H4 pp (.lst [.ref q0, .ref q1])) := Keep.new hpp
    have npp : pp ≠ p := hs3.ne_new hpp
    have pb0 := pa0.keep (kp3.trans k5)
    have pb1 := pa1.keep k5
    have hle5 := k5 _ _ nlp (kp3 _ _ nlp (kp2 _ _ nlp hle))
    have hs5 := hs3.new (o := .lst [.ref q0, .ref q1]) hpp
    have epp : (upd H4 pp (.lst [.ref q0, .ref q1])) pp = some (.lst [.ref q0, .ref q1]) := upd_same
    generalize upd H4 pp (.lst [.ref q0, .ref q1]) = H5 at pb0 pb1 hle5 hs5 epp
    refine asg_of ?_
    refine ⟨_, rfl, p, 4, 240, rfl, hs5, by decide, by decide, by decide +kernel, fun j H6 j0 j1 hs6 kp6 => ?_⟩
    have pc0 := pb0.keep kp6
    have pc1 := pb1.keep kp6
    have hle6 := kp6 _ _ nlp hle5
    have epp6 := kp6 _ _ npp epp
    have nT0pp : ∀ u ∈ T0, u.2.1 ≠ pp := fun u hu z => by
      have := (pa0.keep kp3).at_.d.2 u hu
      rw [z, hpp] at this
      cases this
    have nlpp : l ≠ pp := fun z => by
      have := kp3 _ _ nlp (kp2 _ _ nlp hle)
      rw [z, hpp] at this
      cases this
    -- the second plan
    refine gen_of (P := fun σ' H' => σ' = [some (V.ref a), some (V.ref p), some (V.ref l), some (V.ref pp), some (V.int j), none, none, none, none, none, none, none] ∧ ∃ (q1 d1 e1 : Addr) (T1 : TT') (B1 : NI), H' pp = some (.lst [.ref q0, .ref q1]) ∧ PA p H' q0 d0 e0 T0 B0 ∧ PA p H' q1 d1 e1 T1 B1 ∧ Okp xs T1 B1 ∧ SrcAt H' p 241 ∧ H' l = some (.lst (xs.map V.str))) (fun Vz hV => ?_) (fun σ' H7 hP7 => ?_)
    · refine ifs_of ⟨_, rfl, rfl, _, rfl, ite_of (fun _ => ?_) (fun _ => nx_of (hV _ _ ⟨rfl, q1, d1, e1, T1, B1, epp6, pc0, pc1, ok1, hs6, hle6⟩))⟩
      refine ix3_of rfl epp6 rfl pc0.at_.t rfl ⟨d0, _, rfl, pc0.at_.d.1, fun H7 r1 ts s7 hr1 _ _ hr1e hP => ?_⟩
      refine ⟨r1, _, rfl, SqL.of hr1e, fun r2 hr2 => ?_⟩
      dsimp only [tNil]
      have okr : ∀ {c : Addr} {o : HO}, H7 c = some o → (upd H7 r2 (.lst ((ts.map V.ref).reverse))) c = some o := fun {c o} e => by rw [upd_ne (ne_of_none e hr2)]; exact e
      refine ⟨r2, ts.reverse, T0.reverse.map tkv, rfl, SqL.of (by rw [upd_same, List.map_reverse]), ?_, fun d2 hd2 => ?_⟩
      · rw [List.map_reverse]
        exact paired_rev (paired_imp (fun t q h => SqT.of (okr h)) hP)
      have nTr : (T0.reverse.map (·.1)).Nodup := by rw [List.map_reverse]; exact (List.reverse_perm _).nodup_iff.mpr ok0.nT
      have em : mergeK [] (T0.reverse.map tkv) = T0.reverse.map tkv := by
        rw [mergeK_apart _ [] (fun k _ hm => absurd hm List.not_mem_nil) (by rw [keys_tkv, kg_ct]; exact inr_nodup nTr)]
        rfl
      rw [em]
      have s8 : Same H6 (upd (upd H7 r2 (.lst ((ts.map V.ref).reverse))) d2 (.dK (T0.reverse.map tkv))) := (show Same H6 H7 from s7).trans ((same_new hr2).trans (same_new hd2))
      have ed2 : (upd (upd H7 r2 (.lst ((ts.map V.ref).reverse))) d2 (.dK (T0.reverse.map tkv))) d2 = some (.dK (T0.reverse.map tkv)) := upd_same
      have s8a : Same H6 (upd H7 r2 (.lst ((ts.map V.ref).reverse))) := (show Same H6 H7 from s7).trans (same_new hr2)
      generalize upd (upd H7 r2 (.lst ((ts.map V.ref).reverse))) d2 (.dK (T0.reverse.map tkv)) = H8 at s8 ed2
      refine ix3_of rfl (s8 _ _ epp6) rfl (s8 _ _ pc0.at_.t) rfl ⟨e0, _, rfl, .inl (s8 _ _ pc0.at_.e), fun e2 he2 => ?_⟩
      refine ⟨(by show 2 ≤ sizeLine; decide), fun q2 hq2 => ?_⟩
      have s8' := s8.trans (same_new (o := .dK (B0.map kvi)) he2)
      have s9 := s8.trans ((same_new (o := .dK (B0.map kvi)) he2).trans (same_new (o := .tup [.ref d2, .ref e2]) hq2))
      have f1 := same_new (o := .tup [.ref d2, .ref e2]) hq2 _ _ (same_new (o := .dK (B0.map kvi)) he2 _ _ ed2)
      have f2 := same_new (o := .tup [.ref d2, .ref e2]) hq2 _ _ (show (upd H8 e2 (.dK (B0.map kvi))) e2 = some (dI B0) from upd_same)
      have f3 : (upd (upd H8 e2 (.dK (B0.map kvi))) q2 (.tup [.ref d2, .ref e2])) q2 = some (.tup [.ref d2, .ref e2]) := upd_same
      have hs9 : SrcAt (upd (upd H8 e2 (.dK (B0.map kvi))) q2 (.tup [.ref d2, .ref e2])) p 241 := hs6.same s9
      generalize upd (upd H8 e2 (.dK (B0.map kvi))) q2 (.tup [.ref d2, .ref e2]) = H9 at s9 f1 f2 f3 hs9
      refine ⟨_, rfl, pp, _, 1, 1, rfl, rfl, s9 _ _ epp6, rfl, hV _ _ ⟨rfl, q2, d2, e2, T0.reverse, B0, upd_same, ?_, ?_, ok0.rev, ?_, ?_⟩⟩
      · exact (pc0.same s9).put (s9 _ _ epp6) nT0pp
      · have pz : PA p H9 q2 d2 e2 T0.reverse B0 := ⟨⟨f3, ⟨f1, fun u hu => s9 _ _ (pc0.at_.d.2 u (List.mem_reverse.mp hu))⟩, f2⟩, (hs6.same s8').ne_new hq2, (hs6.same s8a).ne_new hd2, (hs6.same s8).ne_new he2, fun u hu => pc0.nt u (List.mem_reverse.mp hu)⟩
        exact pz.put (s9 _ _ epp6) fun u hu => nT0pp u (List.mem_reverse.mp hu)
      · exact hs9.put npp
      · rw [upd_ne nlpp]
        exact s9 _ _ hle6
    obtain ⟨rfl, q1, d1, e1, T1, B1, epp7, pd0, pd1, ok1', hs7, hle7⟩ := hP7
    clear pa1 pb1 pc1 htt1 hbe1 ht1 po1 ok1 hq1 hd1 he1 hT1
    -- the second plan, by kinds that are left
    refine gen_of (P := fun σ' H' => ∃ y5 : Option V, σ' = [some (V.ref a), some (V.ref p), some (V.ref l), some (V.ref pp), some (V.int j), y5, none, none, none, none, none, none] ∧ ∃ (q1 d1 e1 : Addr) (T1 : TT') (B1 : NI), H' pp = some (.lst [.ref q0, .ref q1]) ∧ PlanAt H' q0 d0 e0 T0 B0 ∧ PlanAt H' q1 d1 e1 T1 B1 ∧ Okp xs T1 B1 ∧ H' l = some (.lst (xs.map V.str))) (fun Vz hV => ?_) (fun σ' H8 hP8 => ?_)
    · refine ifs_of ⟨_, rfl, rfl, _, rfl, ite_of (fun _ => ?_) (fun _ => nx_of (hV _ _ ⟨none, rfl, q1, d1, e1, T1, B1, epp7, pd0.at_, pd1.at_, ok1', hle7⟩))⟩
      refine asg_of ⟨_, rfl, l, rfl, ⟨_, SqL.of hle7⟩, fun D hD => ?_⟩
      refine nmp_of (b := fun x => !decide (x ∈ kg (ct T0))) (by show 10 < 12; decide) (by omega) hD hle7 (fun x hx H' Q' s hq => ?_) (fun H8 s8 hleft => ?_)
      · refine ⟨_, rfl, ix3_of rfl (s _ _ epp7) rfl (s _ _ pd0.at_.t) rfl ⟨d0, _, rfl, DGet.k (k := .inr x) (s _ _ pd0.at_.d.1), _, rfl, ?_⟩⟩
        rw [isSome_tkv]
        exact hq
      have nL : (xs.filter fun x => !decide (x ∈ kg (ct T0))).Nodup := List.Nodup.sublist List.filter_sublist nx
      have lL := List.length_filter_le (fun x => !decide (x ∈ kg (ct T0))) xs
      have mL : ∀ x ∈ xs.filter (fun x => !decide (x ∈ kg (ct T0))), x ∈ xs := fun x hx => (List.mem_filter.mp hx).1
      generalize xs.filter (fun x => !decide (x ∈ kg (ct T0))) = ys at hleft nL lL mL
      refine ⟨_, rfl, D, rfl, ⟨_, SqL.of hleft⟩, fun D2 hD2 => ?_⟩
      refine trp_of (walk_list (xs := ys.map V.str)) (ys := ys) (ws := fun x => [x]) (mk := HO.lst) (List.length_map _) (by show 10 < 12; decide) (by omega) nL hD2 (fun H' s => SqL.of (s _ _ hleft)) listS_Y (fun x hx H' Q' s hk => ?_) (fun T2 ts H9 s9 hd9 hP9 hk9 hu9 nu9 => ?_)
      · exact ⟨_, rfl, (by show 1 ≤ sizeLine; decide), fun v hv => hk v _ hv (same_new hv) upd_same⟩
      dsimp only [tNil]
      have nT2 : (T2.map (·.1)).Nodup := by rw [hk9]; exact nL
      refine dpt_of hd9 hP9 nT2 fun d2 hd2 => ?_
      have s10 : Same H7 (upd H9 d2 (.dK (T2.map tkv))) := s8.trans (s9.trans (same_new hd2))
      have hs10 := hs7.same (s8.trans s9)
      have td2 : TurnsAt (upd H9 d2 (.dK (T2.map tkv))) d2 T2 := ⟨upd_same, fun u hu => same_new hd2 _ _ (hu9 u hu).2.1⟩
      have nd2 : d2 ≠ p := hs10.ne_new hd2
      have ntl : ∀ u ∈ T2, u.2.1 ≠ p := fun u hu => (hs7.same s8).ne_new (hu9 u hu).2.2
      have ntpp : ∀ u ∈ T2, u.2.1 ≠ pp := fun u hu z => by
        have := (hu9 u hu).2.2
        rw [z, s8 _ _ epp7] at this
        cases this
      generalize upd H9 d2 (.dK (T2.map tkv)) = H10 at s10 td2
      obtain ⟨x0, r0, ex0⟩ : ∃ x0 r0, xs = x0 :: r0 := by
        cases xs with
        | nil => cases l4
        | cons x r => exact ⟨x, r, rfl⟩
      intro pd hpd
      have s11 : Same H7 (upd H10 pd (.dK [])) := s10.trans (same_new hpd)
      have hpd2 : (upd H10 pd (.dK [])) pd = some (.dK []) := upd_same
      have npd : pd ≠ p := (hs7.same s10).ne_new hpd
      refine ⟨_, rfl, l, _, 0, .str x0, rfl, rfl, SqL.of (s11 _ _ hle7), by rw [ex0]; exact atI_nat (xs := (x0 :: r0).map V.str) (j := 0) rfl, ?_⟩
      refine ⟨_, rfl, p, 5, 241, rfl, hs7.same s11, by decide, by decide, by decide +kernel, fun j2 H11 a0' a1' hs11 kp11 => ?_⟩
      refine ⟨5, j2, rfl, rfl, kp11 _ _ npd hpd2, [(.inr x0, .int (5 + j2))], rfl, (by show 1 ≤ 15; decide), ?_⟩
      have emk : mergeK [] [((.inr x0 : Key), V.int (5 + j2))] = [(x0, 5 + j2)].map kvi := rfl
      rw [emk]
      have kk : ∀ c o, c ≠ p → H7 c = some o → (upd H11 pd (.dK ([(x0, 5 + j2)].map kvi))) c = some o := fun c o n e => by
        have h1 := s11 _ _ e
        have : c ≠ pd := fun z => by
          have := s10 _ _ e
          rw [z, hpd] at this
          cases this
        rw [upd_ne this]
        exact kp11 _ _ n h1
      have kd : ∀ c o, c ≠ p → H10 c = some o → (upd H11 pd (.dK ([(x0, 5 + j2)].map kvi))) c = some o := fun c o n e => by
        rw [upd_ne (ne_of_none e hpd)]
        exact kp11 _ _ n (same_new hpd _ _ e)
      have epd : (upd H11 pd (.dK ([(x0, 5 + j2)].map kvi))) pd = some (dI [(x0, 5 + j2)]) := upd_same
      have hs12 : SrcAt (upd H11 pd (.dK ([(x0, 5 + j2)].map kvi))) p 242 := hs11.put npd
      generalize upd H11 pd (.dK ([(x0, 5 + j2)].map kvi)) = H12 at kk kd epd hs12
      refine ⟨(by show 2 ≤ sizeLine; decide), fun q2 hq2 => ?_⟩
      have nq2 : q2 ≠ p := hs12.ne_new hq2
      refine ⟨_, rfl, pp, _, 1, 1, rfl, rfl, same_new hq2 _ _ (kk _ _ npp epp7), rfl, hV _ _ ⟨_, rfl, q2, d2, pd, T2, [(x0, 5 + j2)], upd_same, ?_, ?_, ?_, ?_⟩⟩
      · exact ((pd0.keep (fun c o n e => same_new hq2 _ _ (kk c o n e))).put (same_new hq2 _ _ (kk _ _ npp epp7)) nT0pp).at_
      · have pz : PA p (upd H12 q2 (.tup [.ref d2, .ref pd])) q2 d2 pd T2 [(x0, 5 + j2)] := ⟨⟨upd_same, ⟨same_new hq2 _ _ (kd _ _ nd2 td2.1), fun u hu => same_new hq2 _ _ (kd _ _ (ntl u hu) (td2.2 u hu))⟩, same_new hq2 _ _ epd⟩, nq2, nd2, npd, ntl⟩
        exact (pz.put (same_new hq2 _ _ (kk _ _ npp epp7)) ntpp).at_
      · refine ⟨fun x hx => mL x (by rw [← hk9]; exact hx), nT2, ?_, fun u hu => ?_, by simp [ks], fun b hb => ?_, (by show 1 ≤ 4; decide)⟩
        · have e1 : (T2.map (·.1)).length = T2.length := List.length_map _
          rw [hk9] at e1
          omega
        · rw [(hu9 u hu).1]
          have hm : u.1 ∈ ys := by rw [← hk9]; exact List.mem_map.mpr ⟨u, hu, rfl⟩
          exact ⟨by show 1 ≤ 3; decide, fun z hz => by rw [List.mem_singleton.mp hz]; exact nm _ (mL _ hm)⟩
        · rw [List.mem_singleton.mp hb]
          exact ⟨by rw [ex0]; exact List.mem_cons_self, by show 1 ≤ 5 + j2; omega, by show 5 + j2 ≤ 9; omega⟩
      · rw [upd_ne nlpp]
        exact same_new hq2 _ _ (kk _ _ nlp hle7)
    obtain ⟨y5, rfl, q1, d1, e1, T1, B1, epp8, pl0, pl1, ok1, hle8⟩ := hP8
    clear pa0 pb0 pc0 pd0 pd1 ok1' hs7 hle7 hs6 hle6 hs5 hle5 epp epp6 epp7
    -- turns, brings
    refine asg_of ?_
    refine ⟨d0, .dK (T0.map tkv), pl0.d.1, True.intro, fun od => ?_⟩
    have el : (upd H8 d0 (.frz od (.dK (T0.map tkv)))) d0 = some (.frz od (.dK (T0.map tkv))) := upd_same
    have lq0 := lock_ne (od := od) pl0.d.1 pl0.t (fun z => by have := pl0.t; rw [z, pl0.d.1] at this; cases this)
    have lpp := lock_ne (od := od) pl0.d.1 epp8 (fun z => by have := epp8; rw [z, pl0.d.1] at this; cases this)
    have lT := fun u (hu : u ∈ T0) => lock_ne (od := od) pl0.d.1 (pl0.d.2 u hu) (fun z => by have := pl0.d.2 u hu; rw [z, pl0.d.1] at this; cases this)
    refine ix3_of rfl lpp rfl lq0 rfl ⟨d0, od, rfl, .inl ⟨_, el, fun D hD => ?_⟩⟩
    refine trp_of (walk_keys (o := od) (d := d0) (kvs := T0.map tkv)) (ys := T0.map (·.1)) (ws := wsOf T0) (mk := HO.lst) (by rw [List.length_map, List.length_map]) (by show 10 < 12; decide) (by rw [List.length_map]; have := ok0.lT; omega) ok0.nT hD (fun H' s => s _ _ el) keys_Y (fun x hx H' Q' s hk => ?_) (fun T6 ts H9 s9 hd9 hP9 hk9 hu9 nu9 => ?_)
    · obtain ⟨u, hum, rfl, hval, hws⟩ := val_tkv ok0.nT hx
      refine ix3_of rfl (s _ _ lpp) rfl (s _ _ lq0) rfl ⟨_, rfl, d0, _, rfl, .inl ⟨T0.map tkv, .inr u.1, .inr ⟨od, s _ _ el⟩, rfl, hval.symm⟩, u.2.1, _, rfl, .inl (SqL.of (s _ _ (lT u hum))), fun v hv => ?_⟩
      exact hk v _ hv (same_new hv) (by rw [hws]; exact upd_same)
    refine ⟨s9 _ _ el, ?_⟩
    have s10 : Same H8 (upd H9 d0 (.dK (T0.map tkv))) := unlock_same pl0.d.1 s9
    have fr6 : ∀ u ∈ T6, H8 u.2.1 = none := fun u hu => by
      have := (hu9 u hu).2.2
      by_cases z : u.2.1 = d0
      · rw [z, el] at this
        cases this
      · rw [upd_ne z] at this
        exact this
    have nDd : D ≠ d0 := fun z => by rw [z, el] at hD; cases hD
    have f1 : (upd H9 d0 (.dK (T0.map tkv))) D = some (.lst (ts.map V.ref)) := by rw [upd_ne nDd]; exact hd9
    have np : ∀ {c : Addr} {o : HO}, H9 c = some o → c ≠ d0 → (upd H9 d0 (.dK (T0.map tkv))) c = some o := fun {c o} e n => by rw [upd_ne n]; exact e
    have f2 : Paired (fun (t : Addr) (u : Str × Addr × List Str) => (upd H9 d0 (.dK (T0.map tkv))) t = some (.tup [.str u.1, .ref u.2.1])) ts T6 := paired_imp (fun t u h => np h (fun z => by rw [z, s9 _ _ el] at h; cases h)) hP9
    have f3 : ∀ u ∈ T6, (upd H9 d0 (.dK (T0.map tkv))) u.2.1 = some (.lst (u.2.2.map V.str)) := fun u hu => np (hu9 u hu).2.1 (fun z => by have := fr6 u hu; rw [z, pl0.d.1] at this; cases this)
    generalize upd H9 d0 (.dK (T0.map tkv)) = H10 at s10 f1 f2 f3
    dsimp only [tNil]
    have nT6 : (T6.map (·.1)).Nodup := by rw [hk9]; exact ok0.nT
    have ec6 : ct T6 = ct T0 := ct_of hk9 (fun u h => (hu9 u h).1) (fun u h => (wsOf_mem ok0.nT h).symm)
    have l6 : T6.length = T0.length := by
      have h5 : (ct T6).length = T6.length := List.length_map _
      have h6 : (ct T0).length = T0.length := List.length_map _
      rw [← h5, ec6, h6]
    refine dpt_of f1 f2 nT6 fun d6 hd6 => ?_
    refine asg_of ?_
    have s11 : Same H8 (upd H10 d6 (.dK (T6.map tkv))) := s10.trans (same_new hd6)
    refine ix3_of rfl (s11 _ _ epp8) rfl (s11 _ _ pl0.t) rfl ⟨e0, _, rfl, .inl (s11 _ _ pl0.e), fun d7 hd7 => ?_⟩
    have s12 : Same H8 (upd (upd H10 d6 (.dK (T6.map tkv))) d7 (.dK (B0.map kvi))) := s11.trans (same_new hd7)
    have e6 : (upd (upd H10 d6 (.dK (T6.map tkv))) d7 (.dK (B0.map kvi))) d6 = some (.dK (T6.map tkv)) := same_new hd7 _ _ upd_same
    have e7 : (upd (upd H10 d6 (.dK (T6.map tkv))) d7 (.dK (B0.map kvi))) d7 = some (.dK (B0.map kvi)) := upd_same
    have fr_6 : H8 d6 = none := free_same s10 hd6
    have fr_7 : H8 d7 = none := free_same s11 hd7
    have n67 : d6 ≠ d7 := fun z => by rw [← z, upd_same] at hd7; cases hd7
    have t6 : ∀ u ∈ T6, (upd (upd H10 d6 (.dK (T6.map tkv))) d7 (.dK (B0.map kvi))) u.2.1 = some (.lst (u.2.2.map V.str)) := fun u hu => same_new hd7 _ _ (same_new hd6 _ _ (f3 u hu))
    generalize upd (upd H10 d6 (.dK (T6.map tkv))) d7 (.dK (B0.map kvi)) = H11 at s12 e6 e7 t6
    have w6 : ∀ u ∈ T6, u.2.2.length ≤ 3 ∧ ∀ z ∈ u.2.2, nameB z = true := fun u hu => by
      have hm : (u.1, u.2.2) ∈ ct T0 := by rw [← ec6]; exact List.mem_map.mpr ⟨u, hu, rfl⟩
      obtain ⟨u0, h0, e⟩ := List.mem_map.mp hm
      have e2 : u0.2.2 = u.2.2 := congrArg (fun z : Str × List Str => z.2) e
      rw [← e2]
      exact ok0.wT u0 h0
    have ok6 : okT T6 := ⟨nT6, fun t ht => nm _ (ok0.kT _ (by rw [← hk9]; exact List.mem_map.mpr ⟨t, ht, rfl⟩)), by rw [l6]; have := ok0.lT; omega⟩
    have l48 : T0.length ≤ 8 ∧ B0.length ≤ 8 ∧ T1.length ≤ 8 ∧ B1.length ≤ 8 := by
      have := ok0.lT
      have := ok0.lB
      have := ok1.lT
      have := ok1.lB
      omega
    -- two statements
    refine ⟨_, rfl, _, rfl, ?_⟩
    dsimp only [tNil]
    intro t1 dx1 ht1 hdx1 ne1
    refine smake_x ht1 hdx1 ne1 (.inl e6) (fun u hu => ⟨.inl (t6 u hu), w6 u hu⟩) ok6 (.inl e7) (ok0.okB nm) (by omega) l48.2.1 fun H12 S A1 s13 st1 pS pA => ?_
    have s14 : Same H8 H12 := s12.trans s13
    refine ix3_of rfl (s14 _ _ epp8) rfl (s14 _ _ pl1.t) rfl ?_
    refine ix3_of rfl (s14 _ _ epp8) rfl (s14 _ _ pl1.t) rfl ?_
    intro t2 dx2 ht2 hdx2 ne2
    refine smake_x ht2 hdx2 ne2 (.inl (s14 _ _ pl1.d.1)) (TAt.of ⟨s14 _ _ pl1.d.1, fun u hu => s14 _ _ (pl1.d.2 u hu)⟩ ok1) (ok1.okT nm) (.inl (s14 _ _ pl1.e)) (ok1.okB nm) l48.2.2.1 l48.2.2.2 fun H13 S2 A2 s15 st2 pS2 pA2 => ?_
    refine ⟨_, _, rfl, ?_⟩
    rw [ec6] at pS
    have st1' : StmFr H11 H13 C t1 S A1 := st1.imp fun c o e _ => s15 _ _ e
    have st2' : StmFr H11 H13 C t2 S2 A2 := st2.old fun c h => free_same s13 h
    have e6' := s15 _ _ (s13 _ _ e6)
    have e7' := s15 _ _ (s13 _ _ e7)
    have t6' : ∀ u ∈ T6, H13 u.2.1 = some (.lst (u.2.2.map V.str)) := fun u hu => s15 _ _ (s13 _ _ (t6 u hu))
    have s16 : Same H8 H13 := s14.trans s15
    clear st1 st2
    -- what was handed in is changed
    refine ⟨d6, .dK (T6.map tkv), e6', True.intro, fun od6 => ?_⟩
    have el6 : (upd H13 d6 (.frz od6 (.dK (T6.map tkv)))) d6 = some (.frz od6 (.dK (T6.map tkv))) := upd_same
    have n6l : ∀ u ∈ T6, u.2.1 ≠ d6 := fun u hu z => by have := t6' u hu; rw [z, e6'] at this; cases this
    refine ⟨_, rfl, d6, od6, rfl, .inl ⟨T6.map tkv, el6, ?_⟩⟩
    refine for_it (walk_keys (o := od6) (d := d6) (kvs := T6.map tkv)) (fun i σ H' => (∀ c o, (upd H13 d6 (.frz od6 (.dK (T6.map tkv)))) c = some o → (∀ u ∈ T6, u.2.1 ≠ c) → H' c = some o) ∧ (∀ u ∈ T6, ∃ zs : List V, H' u.2.1 = some (.lst zs) ∧ zs.length ≤ 3 + i) ∧ ∃ y, σ = [some (V.ref a), some (V.ref p), some (V.ref l), some (V.ref pp), some (V.int j), y5, some (V.ref d6), some (V.ref d7), some (V.ref t1), some (V.ref t2), y, none])
      ⟨fun _ _ e _ => e, fun u hu => ⟨_, by rw [upd_ne (n6l u hu)]; exact t6' u hu, by rw [List.length_map]; exact (w6 u hu).1⟩, none, rfl⟩ (fun i σ H' _ ⟨kp, _⟩ => kp _ _ el6 n6l) ?_ ?_
    · rintro i x σ Ha Hb hi ⟨kp, hz, y, rfl⟩ hy
      obtain ⟨e, z, hz', rfl⟩ := keys_Y i _ _ _ hy
      subst e
      rw [List.getElem?_map] at hz'
      obtain ⟨u0, hu0, rfl⟩ := Option.map_eq_some_iff.mp hz'
      obtain ⟨u, hum, e1, hval, _⟩ := val_tkv nT6 (List.mem_map.mpr ⟨u0, List.mem_of_getElem? hu0, rfl⟩)
      obtain ⟨zs, hzs, lzs⟩ := hz u hum
      have li : i < T6.length := by rw [List.length_map] at hi; exact hi
      have l4' := ok0.lT
      refine ⟨_, rfl, _, rfl, d6, _, rfl, .inl ⟨T6.map tkv, .inr u0.1, .inr ⟨od6, kp _ _ el6 n6l⟩, rfl, hval.symm⟩, .inl ⟨rfl, _, SqL.of hzs⟩, u.2.1, zs, _, rfl, rfl, hzs, by rw [sizeLine_eq]; omega, fun c o e n => ?_, fun v hv => ?_, _, rfl⟩
      · rw [upd_ne (n u hum).symm]
        exact kp c o e n
      · obtain ⟨ws, hws, lws⟩ := hz v hv
        by_cases h : v.2.1 = u.2.1
        · exact ⟨_, by rw [h]; exact upd_same, by rw [List.length_append, List.length_singleton]; omega⟩
        · exact ⟨ws, by rw [upd_ne h]; exact hws, by omega⟩
    rintro σ H14 ⟨kp, _, y, rfl⟩
    refine ⟨kp _ _ el6 n6l, ?_⟩
    have kz : ∀ c o, H13 c = some o → (∀ u ∈ T6, u.2.1 ≠ c) → (upd H14 d6 (.dK (T6.map tkv))) c = some o := fun c o e n => by
      by_cases h : c = d6
      · subst h
        rw [upd_same, ← e, e6']
      · rw [upd_ne h]
        exact kp c o (by rw [upd_ne h]; exact e) n
    have z6 : (upd H14 d6 (.dK (T6.map tkv))) d6 = some (.dK (T6.map tkv)) := upd_same
    generalize upd H14 d6 (.dK (T6.map tkv)) = H15 at kz z6
    refine ⟨(by show 0 ≤ sizeLine; decide), fun v hv => ⟨_, rfl, d6, _, rfl, DPut.k (k := .inr "late") (same_new hv _ _ z6) (by rw [List.length_map, l6, sizeLine_eq]; have := ok0.lT; omega), ?_⟩⟩
    have k2 : ∀ c o, H13 c = some o → (∀ u ∈ T6, u.2.1 ≠ c) → c ≠ d6 → (upd (upd H15 v (.lst [])) d6 (.dK (putK (T6.map tkv) (.inr "late") (.ref v)))) c = some o := fun c o e n n6 => by
      rw [upd_ne n6]
      exact same_new hv _ _ (kz c o e n)
    generalize upd (upd H15 v (.lst [])) d6 (.dK (putK (T6.map tkv) (.inr "late") (.ref v))) = H16 at k2
    have n7l : ∀ u ∈ T6, u.2.1 ≠ d7 := fun u hu z => by have := t6' u hu; rw [z, e7'] at this; cases this
    have z7 := k2 _ _ e7' n7l n67.symm
    refine ⟨_, rfl, .inr (.inr (.inl ⟨rfl, .inl ⟨_, z7⟩⟩)), d7, _, rfl, rfl, z7, ?_⟩
    have k3 : ∀ c o, H13 c = some o → (∀ u ∈ T6, u.2.1 ≠ c) → c ≠ d6 → c ≠ d7 → (upd H16 d7 (.dK [])) c = some o := fun c o e n n6 n7 => by
      rw [upd_ne n7]
      exact k2 c o e n n6
    generalize upd H16 d7 (.dK []) = H17 at k3
    have sF : Same H8 H17 := fun c o e => k3 c o (s16 _ _ e) (fun u hu z => by have := fr6 u hu; rw [z, e] at this; cases this) (fun z => by rw [z, fr_6] at e; cases e) (fun z => by rw [z, fr_7] at e; cases e)
    have kst : ∀ c o, H13 c = some o → ((∃ dx fs, o = .ins C dx fs) ∨ (∃ xs, o = .tup xs) ∨ H11 c = none ∧ ∃ kvs, o = .dK kvs) → H17 c = some o := fun c o e h => by
      refine k3 c o e (fun u hu z => ?_) (fun z => ?_) (fun z => ?_)
      · have := t6' u hu
        rw [z, e] at this
        rcases h with ⟨_, _, rfl⟩ | ⟨_, rfl⟩ | ⟨_, _, rfl⟩ <;> cases this
      · rw [z, e6'] at e
        rcases h with ⟨_, _, rfl⟩ | ⟨_, rfl⟩ | ⟨hn, _⟩
        · cases e
        · cases e
        · rw [z, e6] at hn
          cases hn
      · rw [z, e7'] at e
        rcases h with ⟨_, _, rfl⟩ | ⟨_, rfl⟩ | ⟨hn, _⟩
        · cases e
        · cases e
        · rw [z, e7] at hn
          cases hn
    have sa1 : StmAt H17 C t1 S A1 := (st1'.imp kst).at_
    have sa2 : StmAt H17 C t2 S2 A2 := (st2'.imp kst).at_
    have eppF := sF _ _ epp8
    have hleF := sF _ _ hle8
    have p0F := pl0.same sF
    have p1F := pl1.same sF
    have nS : (kg S).Nodup := let ⟨_, _, _, _, _, _, o, _⟩ := sa1; o.cs.nd
    have nS2 : (kg S2).Nodup := let ⟨_, _, _, _, _, _, o, _⟩ := sa2; o.cs.nd
    have nA1 : (ks A1).Nodup := let ⟨_, _, _, _, _, _, o, _⟩ := sa1; o.cb.nd
    have nA2 : (ks A2).Nodup := let ⟨_, _, _, _, _, _, o, _⟩ := sa2; o.cb.nd
    have v12 : (eqG S S2 && eqI A1 A2) = (eqG (ct T0) (ct T1) && eqI B0 B1) := by rw [eqG_perm2 pS pS2 nS nS2, eqI_perm2 pA pA2 nA1 nA2]
    clear kst k3 k2 kz st1' st2' t6' e6' e7' t6 e6 e7 f1 f2 f3 hP9 hu9 hd9
    have at0 : ∀ {x y : V}, atI [x, y] 0 = some x := fun {x y} => atI_nat (xs := [x, y]) (j := 0) rfl
    have at1 : ∀ {x y : V}, atI [x, y] 1 = some y := fun {x y} => atI_nat (xs := [x, y]) (j := 1) rfl
    -- both are right
    refine nxs_of ?_
    refine ifs_of ?_
    refine or_of ?_
    refine ⟨_, rfl, ixl_of rfl eppF at0 ⟨t1, q0, d0, e0, S, A1, T0, B0, rfl, sa1, p0F, pS, pA, fun H18 s18 => ⟨true, rfl, iteF ?_⟩⟩⟩
    refine ⟨_, rfl, ixl_of rfl (s18 _ _ eppF) at1 ⟨t2, q1, d1, e1, S2, A2, T1, B1, rfl, sa2.same s18, p1F.same s18, pS2, pA2, fun H19 s19 => ⟨true, rfl, iteF (nx_of ?_)⟩⟩⟩
    have sg := s18.trans s19
    have sb1 := sa1.same sg
    have sb2 := sa2.same sg
    have eppG := sg _ _ eppF
    have hleG := sg _ _ hleF
    have p0G := p0F.same sg
    have p1G := p1F.same sg
    clear sa1 sa2 eppF hleF p0F p1F sg s18 s19 sF
    -- what they tell is changed
    obtain ⟨dx, fs, hi1, hf1⟩ := ins_of sb1
    refine ⟨_, rfl, t1, dx, fs, rfl, hi1, hf1 _ (by decide) (by decide), t1, S, A1, rfl, sb1, fun dn Tn H20 hdn s20 tn en => ?_⟩
    refine ⟨.inr (.inr (.inl ⟨rfl, .inl ⟨_, tn.1⟩⟩)), dn, _, rfl, rfl, tn.1, ?_⟩
    have s21 : Same H19 (upd H20 dn (.dK [])) := same_put s20 hdn
    generalize upd H20 dn (.dK []) = H21 at s21
    refine ⟨_, rfl, t1, dx, fs, rfl, s21 _ _ hi1, hf1 _ (by decide) (by decide), t1, S, A1, rfl, sb1.same s21, fun ln hln => ?_⟩
    refine ⟨.inl ⟨rfl, _, SqL.of upd_same⟩, ln, _, _, rfl, rfl, upd_same, ?_, ?_⟩
    · rw [List.length_map, kg_len, sizeLine_eq]
      have := pS.length_eq
      have h6 : (ct T0).length = T0.length := List.length_map _
      have := ok0.lT
      omega
    have s22 : Same H19 (upd (upd H21 ln (.lst ((kg S).map V.str))) ln (.lst ((kg S).map V.str ++ [.str "late"]))) := same_put (s21.trans (same_new hln)) (free_same s21 hln)
    generalize upd (upd H21 ln (.lst ((kg S).map V.str))) ln (.lst ((kg S).map V.str ++ [.str "late"])) = H22 at s22
    -- same
    refine nxs_of ?_
    refine asg_of ?_
    refine ixl_of rfl (s22 _ _ eppG) at0 ⟨q0, d0, e0, T0, B0, rfl, p0G.same s22, ok0.nT, by have := ok0.lT; omega, fun u hu => (ok0.wT u hu).2, fun la aa ca Ta H23 hla haa hca s23 ela ta eca eba => ?_⟩
    have s24 := s22.trans s23
    refine ixl_of rfl (s24 _ _ eppG) at1 ⟨q1, d1, e1, T1, B1, rfl, p1G.same s24, ok1.nT, by have := ok1.lT; omega, fun u hu => (ok1.wT u hu).2, fun lb ab cb Tb H25 hlb hab hcb s25 elb tb ecb ebb => ?_⟩
    have s26 := s24.trans s25
    refine ⟨la, lb, aa, ab, ca, cb, Ta, Tb, B0, B1, rfl, rfl, (fun z => by rw [← z, ela] at hlb; cases hlb), (fun z => by rw [← z, ta.1] at hab; cases hab), (fun z => by rw [← z, eba] at hcb; cases hcb), s25 _ _ ela, elb, ta.same s25, tb, s25 _ _ eba, ebb, ?_⟩
    rw [eca, ecb, ← v12]
    have sc1 := sb1.same s26
    have sc2 := sb2.same s26
    have eppH := s26 _ _ eppG
    have hleH := s26 _ _ hleG
    have p0H := p0G.same s26
    have p1H := p1G.same s26
    have hi1H := s26 _ _ hi1
    clear sb1 sb2 eppG hleG p0G p1G ela elb ta tb eba ebb
    obtain ⟨dy, gs, hi2, hf2⟩ := ins_of sc2
    generalize hv : (eqG S S2 && eqI A1 A2) = v
    -- == and != of the two
    refine ifs_of (or_of (test_of ⟨_, rfl, _, rfl, t1, dx, fs, rfl, hi1H, .inl ⟨t2, dy, gs, rfl, hi2⟩, t1, .ref t2, S, A1, rfl, sc1, .inl ⟨t2, S2, A2, rfl, sc2, _, rfl, _, rfl, rfl, _, rfl, ?_⟩⟩))
    rw [hv, decide_eq_true rfl]
    refine iteF (or_of (test_of ⟨_, rfl, _, rfl, t1, dx, fs, rfl, hi1H, .inl ⟨t2, dy, gs, rfl, hi2⟩, t1, .ref t2, S, A1, rfl, sc1, .inl ⟨t2, S2, A2, rfl, sc2, _, rfl, _, rfl, rfl, _, rfl, ?_⟩⟩))
    rw [hv, show decide (V.bl (!v) = V.bl v) = false from by cases v <;> decide]
    refine iteF (or_of (test_of ⟨_, rfl, ixl_of rfl eppH at0 ⟨t1, dx, fs, rfl, hi1H, .inr ⟨.type "tuple", .base (.tup p0H.t), T.nft⟩, t1, .ref q0, S, A1, rfl, sc1, .inr ⟨.type "tuple", .base (.tup p0H.t), T.kitt, _, rfl, _, rfl, iteF ?_⟩⟩⟩))
    refine ⟨_, rfl, ixl_of rfl eppH at0 ⟨t1, q0, d0, e0, S, A1, T0, B0, rfl, sc1, p0H, pS, pA, fun H26 s27 => ⟨true, rfl, iteF (nx_of ?_)⟩⟩⟩
    have sd1 := sc1.same s27
    have sd2 := sc2.same s27
    have eppI := s27 _ _ eppH
    have hleI := s27 _ _ hleH
    have p0I := p0H.same s27
    have p1I := p1H.same s27
    clear sc1 sc2 eppH hleH p0H p1H s26 s24 s22
    have okE : Lw.okB [] := ⟨List.nodup_nil, fun b hb => absurd hb List.not_mem_nil, fun b hb => absurd hb List.not_mem_nil, Nat.zero_le _⟩
    have okTE : okT [] := ⟨List.nodup_nil, fun b hb => absurd hb List.not_mem_nil, Nat.zero_le _⟩
    have nB0 : ∀ {B : NI}, B.Perm [] → B = [] := fun {B} h => List.perm_nil.mp h
    -- without brings
    refine ifs_of ?_
    refine or_of ?_
    refine test_of ?_
    refine ix3_of rfl eppI at0 p0I.t at0 ⟨Nat.zero_le _, fun pt hpt => ?_⟩
    dsimp only [tNil]
    have s28 : Same H26 (upd H26 pt (.tup [])) := same_new hpt
    have ept : (upd H26 pt (.tup [])) pt = some (.tup []) := upd_same
    generalize upd H26 pt (.tup []) = H27 at s28 ept
    intro t3 dx3 ht3 hdx3 ne3
    refine smake_x ht3 hdx3 ne3 (.inl (s28 _ _ p0I.d.1)) (TAt.of ⟨s28 _ _ p0I.d.1, fun u hu => s28 _ _ (p0I.d.2 u hu)⟩ ok0) (ok0.okT nm) (B := []) (.inr ⟨rfl, .inl ept⟩) okE l48.1 (Nat.zero_le _) fun H28 S3 B3 s29 st3 pS3 pB3 => ?_
    have s30 := s28.trans s29
    refine ix3_of rfl (s30 _ _ eppI) at0 (s30 _ _ p0I.t) at0 ?_
    intro t4 dx4 ht4 hdx4 ne4
    refine smake_x ht4 hdx4 ne4 (.inl (s30 _ _ p0I.d.1)) (TAt.of ⟨s30 _ _ p0I.d.1, fun u hu => s30 _ _ (p0I.d.2 u hu)⟩ ok0) (ok0.okT nm) (B := []) (.inr ⟨rfl, .inr (.inr T.stm.kt)⟩) okE l48.1 (Nat.zero_le _) fun H29 S4 B4 s31 st4 pS4 pB4 => ?_
    have sx3 := st3.at_.same s31
    obtain ⟨dx5, fs5, hi5, _⟩ := ins_of sx3
    obtain ⟨dx6, fs6, hi6, _⟩ := ins_of st4.at_
    have nS3 : (kg S3).Nodup := let ⟨_, _, _, _, _, _, o, _⟩ := sx3; o.cs.nd
    have nS4 : (kg S4).Nodup := let ⟨_, _, _, _, _, _, o, _⟩ := st4; o.cs.nd
    have v34 : (eqG S3 S4 && eqI B3 B4) = true := by
      rw [nB0 pB3, nB0 pB4, Bool.and_eq_true]
      exact ⟨(eqG_iff nS3 nS4).mpr fun x => gl_perm (pS3.trans pS4.symm) nS3 x, rfl⟩
    refine ⟨t3, dx5, fs5, rfl, hi5, .inl ⟨t4, dx6, fs6, rfl, hi6⟩, t3, .ref t4, S3, B3, rfl, sx3, .inl ⟨t4, S4, B4, rfl, st4.at_, _, rfl, _, rfl, ?_⟩⟩
    rw [v34]
    refine iteF (test_of ?_)
    have s32 := s30.trans s31
    clear sx3 st3 st4 hi5 hi6
    intro pe hpe
    have s33 : Same H29 (upd H29 pe (.dK [])) := same_new hpe
    refine ⟨Nat.zero_le _, fun pt2 hpt2 => ?_⟩
    dsimp only [tNil]
    have s34 := s33.trans (same_new (o := .tup []) hpt2)
    have epe := same_new (o := .tup []) hpt2 _ _ (show (upd H29 pe (.dK [])) pe = some (.dK []) from upd_same)
    have ept2 : (upd (upd H29 pe (.dK [])) pt2 (.tup [])) pt2 = some (.tup []) := upd_same
    generalize upd (upd H29 pe (.dK [])) pt2 (.tup []) = H30 at s34 epe ept2
    intro t5 dx7 ht5 hdx7 ne5
    refine smake_x ht5 hdx7 ne5 (T := []) (.inl epe) (fun u hu => absurd hu List.not_mem_nil) okTE (B := []) (.inr ⟨rfl, .inl ept2⟩) okE (Nat.zero_le _) (Nat.zero_le _) fun H31 S5 B5 s35 st5 pS5 pB5 => ?_
    intro pf hpf
    have s36 : Same H31 (upd H31 pf (.dK [])) := same_new hpf
    intro pg hpg
    dsimp only [tNil]
    have s37 := s36.trans (same_new (o := .dK []) hpg)
    have epf := same_new (o := .dK []) hpg _ _ (show (upd H31 pf (.dK [])) pf = some (.dK []) from upd_same)
    have epg : (upd (upd H31 pf (.dK [])) pg (.dK [])) pg = some (.dK []) := upd_same
    generalize upd (upd H31 pf (.dK [])) pg (.dK []) = H32 at s37 epf epg
    intro t6 dx8 ht6 hdx8 ne6
    refine smake_x ht6 hdx8 ne6 (T := []) (.inl epf) (fun u hu => absurd hu List.not_mem_nil) okTE (B := []) (.inl epg) okE (Nat.zero_le _) (Nat.zero_le _) fun H33 S6 B6 s38 st6 pS6 pB6 => ?_
    have sx5 := st5.at_.same (s37.trans s38)
    obtain ⟨dx9, fs9, hi9, _⟩ := ins_of sx5
    obtain ⟨dxA, fsA, hiA, _⟩ := ins_of st6.at_
    have v56 : (eqG S5 S6 && eqI B5 B6) = true := by
      rw [nB0 pB5, nB0 pB6, show S5 = [] from List.perm_nil.mp pS5, show S6 = [] from List.perm_nil.mp pS6]
      rfl
    refine ⟨t5, dx9, fs9, rfl, hi9, .inl ⟨t6, dxA, fsA, rfl, hiA⟩, t5, .ref t6, S5, B5, rfl, sx5, .inl ⟨t6, S6, B6, rfl, st6.at_, _, rfl, _, rfl, ?_⟩⟩
    rw [v56]
    refine iteF ?_
    refine nx_of (D' := { nx := fun _ H' => Q .non H', rt := Q }) ?_
    have s39 := s32.trans (s34.trans (s35.trans (s37.trans s38)))
    have se1 := sd1.same s39
    have se2 := sd2.same s39
    have eppJ := s39 _ _ eppI
    have hleJ := s39 _ _ hleI
    have p0J := p0I.same s39
    have p1J := p1I.same s39
    clear sx5 st5 st6 hi9 hiA sd1 sd2
    -- joined, twice
    have oS : SOk S A1 := let ⟨_, _, _, _, _, _, o, _⟩ := se1; o
    have oS2 : SOk S2 A2 := let ⟨_, _, _, _, _, _, o, _⟩ := se2; o
    have kS : ∀ x ∈ kg S, x ∈ xs := fun x hx => ok0.kT x (by rw [← kg_ct]; exact (kg_perm pS).mem_iff.mp hx)
    have kS2 : ∀ x ∈ kg S2, x ∈ xs := fun x hx => ok1.kT x (by rw [← kg_ct]; exact (kg_perm pS2).mem_iff.mp hx)
    have kA : ∀ x ∈ ks A1, x ∈ xs := fun x hx => by
      obtain ⟨b, hb, rfl⟩ := List.mem_map.mp ((ks_perm pA).mem_iff.mp hx)
      exact (ok0.kB b hb).1
    have kA2 : ∀ x ∈ ks A2, x ∈ xs := fun x hx => by
      obtain ⟨b, hb, rfl⟩ := List.mem_map.mp ((ks_perm pA2).mem_iff.mp hx)
      exact (ok1.kB b hb).1
    have h5 : (ct T0).length = T0.length := List.length_map _
    have h6 : (ct T1).length = T1.length := List.length_map _
    have lSS : S.length + S2.length ≤ 8 := by rw [pS.length_eq, pS2.length_eq, h5, h6]; have := ok0.lT; have := ok1.lT; omega
    have lAA : A1.length + A2.length ≤ 8 := by rw [pA.length_eq, pA2.length_eq]; have := ok0.lB; have := ok1.lB; omega
    refine ifs_of ?_
    refine or_of ?_
    refine ⟨_, rfl, _, rfl, _, rfl, _, rfl, t1, t2, pp, l, q0, q1, d0, d1, e0, e1, S, S2, A1, A2, T0, T1, B0, B1, xs, rfl, se1, se2, eppJ, p0J, p1J, pS, pA, pS2, pA2, hleJ, nx, by omega, kS, kS2, kA, kA2, lSS, lAA, fun H34 s40 => ⟨true, rfl, iteF ?_⟩⟩
    refine ⟨_, rfl, _, rfl, _, rfl, _, rfl, t1, t2, pp, l, q0, q1, d0, d1, e0, e1, S, S2, A1, A2, T0, T1, B0, B1, xs, rfl, se1.same s40, se2.same s40, s40 _ _ eppJ, p0J.same s40, p1J.same s40, pS, pA, pS2, pA2, s40 _ _ hleJ, nx, by omega, kS, kS2, kA, kA2, lSS, lAA, fun H35 s41 => ⟨true, rfl, iteF (nx_of ?_)⟩⟩
    have s42 := s40.trans s41
    -- both are right still
    refine ⟨_, rfl, ixl_of rfl (s42 _ _ eppJ) at0 ⟨t1, q0, d0, e0, S, A1, T0, B0, rfl, se1.same s42, p0J.same s42, pS, pA, fun H36 s43 => ⟨true, rfl, iteT ?_⟩⟩⟩
    have s44 := s42.trans s43
    exact ⟨_, rfl, ixl_of rfl (s44 _ _ eppJ) at1 ⟨t2, q1, d1, e1, S2, A2, T1, B1, rfl, se2.same s44, p1J.same s44, pS2, pA2, fun H37 _ => k H37⟩⟩
end
end Lw
/-! ## Hk -/
set_option Elab.async false
set_option linter.all false
set_option maxRecDepth 100000
set_option maxHeartbeats 0
namespace Lw
open PySem PySem.Spec PyProof.Rows L2 Sl
def dF (x : Str) (st : Stmt) : He.DefD := ⟨(x, none), x, x, defArgs st, defBody st, defScope st, [], []⟩
def dM (c m q : Str) (st : Stmt) (dfl : List He.Dv) : He.DefD := ⟨(c, some m), m, q, defArgs st, defBody st, defScope st, dfl, []⟩
def fn : List He.DefD := [dF "shown" s_shown,
  dF "is_name" s_is_name,
  dF "is_integer" s_is_integer,
  dF "is_list" s_is_list,
  dF "pairs_of" s_pairs_of,
  dF "sums" s_sums,
  dF "is_turn" s_is_turn,
  dF "is_brought" s_is_brought,
  dF "checked_turns" s_checked_turns,
  dF "checked_brings" s_checked_brings,
  dF "_law_source" s_l_source,
  dF "_law_draw" s_l_draw,
  dF "_law_pick" s_l_pick,
  dF "_law_order" s_l_order,
  dF "_law_subset" s_l_subset,
  dF "_law_name" s_l_name,
  dF "_law_names" s_l_names,
  dF "_law_some" s_l_some,
  dF "_law_plan" s_l_plan,
  dF "_law_rows_text" s_l_rows_text,
  dF "_law_tried" s_l_tried,
  dF "_law_due" s_l_due,
  dF "_law_is_right" s_l_is_right,
  dF "_law_join_right" s_l_join_right,
  dF "law" s_law,
  dM "LotError" "__init__" "LotError.__init__" s_LotError___init__ [],
  dM "Overlap" "__init__" "Overlap.__init__" s_Overlap___init__ [],
  dM "Statement" "__init__" "Statement.__init__" s_Statement___init__ [.adr (He.dflAt ("Statement", some "__init__") 0)],
  dM "Statement" "__eq__" "Statement.__eq__" s_Statement___eq__ [],
  dM "Statement" "__or__" "Statement.__or__" s_Statement___or__ [],
  dM "Statement" "turns" "Statement.turns" s_Statement_turns [],
  dM "Statement" "brings" "Statement.brings" s_Statement_brings [],
  dM "Statement" "reads" "Statement.reads" s_Statement_reads [],
  dM "Statement" "writes" "Statement.writes" s_Statement_writes [],
  dM "Statement" "text" "Statement.text" s_Statement_text []]
def pr : List PrD := []
def fa : List He.Fa := [.glo "shown", .glo "is_name", .glo "is_integer", .glo "is_list", .glo "pairs_of", .glo "sums", .glo "is_turn", .glo "is_brought", .glo "checked_turns", .glo "checked_brings", .glo "_law_source", .glo "_law_draw", .glo "_law_pick", .glo "_law_order", .glo "_law_subset", .glo "_law_name", .glo "_law_names", .glo "_law_some", .glo "_law_plan", .glo "_law_rows_text", .glo "_law_tried", .glo "_law_due", .glo "_law_is_right", .glo "_law_join_right", .glo "law", .glo "LotError", .glo "Overlap", .glo "Statement", .free "isinstance", .free "str", .free "int", .free "bool", .free "list", .free "tuple", .free "dict", .free "len", .free "all", .free "range", .free "sorted", .free "set", .free "ValueError", .int "MOST_BITS" 1000, .str "LETTERS" "abcdefghijklmnopqrstuvwxyz", .int "MOST_LETTERS" 8, .int "MOST_KINDS" 3, .int "MOST_BROUGHT" 9, .str "NOTHING" "nothing", .cls "Statement", .mkr "Statement", .meth "Statement" "__eq__", .meth "Statement" "__or__", .meth "Statement" "turns", .meth "Statement" "brings", .meth "Statement" "reads", .meth "Statement" "writes", .meth "Statement" "text", .noat "Statement" "_brings", .noat "Statement" "_turns"]
def tC (K : PySem.W.Frag) : Addr := He.ga K "Statement"
def dA (K : PySem.W.Frag) : Addr := He.dflAt ("Statement", some "__init__") 0 K
def tup0B (a : PySem.W.Frag → Addr) (K : PySem.W.Frag) : Bool := match K.lookup (a K) with
  | some ⟨.type c, _, .seq its _, _⟩ => decide (c = "tuple") && its.isEmpty
  | _ => false
def ex1 (K : PySem.W.Frag) : Bool := He.eqO (PySem.W.findIn K (.ref (tC K)) "__class__") (some (some (.builtin "object.__class__"))) && (He.eqO (PySem.W.specialIn K (.builtin "object.__class__") "__get__") (some (some (.builtin "getset_descriptor.__get__"))) && (decide (PySem.W.takesIn K (.builtin "object.__class__") = some true) && decide (PySem.W.mroIn K (tC K) (.type "object") = some true)))
def ex2 (K : PySem.W.Frag) : Bool := decide (PySem.W.kitOne K (.type "tuple") (.ref (tC K)) = some false) && decide (PySem.W.exmOne K (.ref (He.ga K "Overlap")) (.ref (He.ga K "Overlap")) = some true)
def ex3 (K : PySem.W.Frag) : Bool := He.eqO (PySem.W.findIn K (.ref (tC K)) "__ne__") (some (some (.builtin "object.__ne__"))) && (decide (PySem.W.subIn K (.ref (tC K)) (.type "object") = some true) && (PySem.W.selfFirst K (tC K) && PySem.W.notFirst K (tC K) (.type "tuple")))
def ex : List (PySem.W.Frag → Bool) := [ex1, ex2, ex3, errB "Overlap" "kind", fun K => crdB K (He.ga K "LotError"), fun K => clvB K (.ref (He.ga K "LotError")) "__init__" (.ref (He.ma K (He.ga K "LotError") "__init__")), fun K => clvB K (.type "ValueError") "__init__" (.builtin "ValueError.__init__"), tup0B dA]
abbrev R : PySem.W.OpenRow := PySem.W.OpenLaw.row PySem.Challenge.rw_statementlots_k03_statements_made
abbrev hk : PySem.W.Hook := hookT 6 fa fn pr ex
def ob (s : PySem.W.SharedT) : AlT := obsTG 6 fa fn pr ex (HandSHeadRun.getT s)
theorem ob_eq (s : PySem.W.SharedT) : ob s = hk.obs s.abs := obsTG_eq (HandSHeadRun.getT_eq s)
abbrev loose : List Str := [("_wall" : Str), ("MOST_BITS" : Str), ("shown" : Str), ("LotError" : Str), ("BadStatement" : Str), ("Overlap" : Str), ("LETTERS" : Str), ("MOST_LETTERS" : Str), ("is_name" : Str), ("is_integer" : Str), ("is_list" : Str), ("pairs_of" : Str), ("sums" : Str), ("MOST_KINDS" : Str), ("MOST_BROUGHT" : Str), ("NOTHING" : Str), ("is_turn" : Str), ("is_brought" : Str), ("checked_turns" : Str), ("checked_brings" : Str), ("Statement" : Str), ("_law_source" : Str), ("_law_draw" : Str), ("_law_pick" : Str), ("_law_order" : Str), ("_law_subset" : Str), ("_law_name" : Str), ("_law_names" : Str), ("_law_some" : Str), ("_law_plan" : Str), ("_law_rows_text" : Str), ("_law_tried" : Str), ("_law_due" : Str), ("_law_is_right" : Str), ("_law_join_right" : Str)]
end Lw
/-! ## Hr -/
set_option Elab.async false
set_option linter.all false
set_option maxRecDepth 100000
set_option maxHeartbeats 0
namespace Lw
open PySem PySem.Spec PyProof.Rows L2 Sl
theorem run (w : World) : HandSHeadRun.RunEq R (PySem.W.view R.prog [39]) hk ob 5000 loose w := by
  intro os
  kernel_rfl
end Lw
/-! ## Kj -/
set_option Elab.async false
set_option linter.all false
set_option maxRecDepth 100000
set_option maxHeartbeats 4000000
namespace Lw
open PySem PySem.Spec PyProof.Rows L2 Sl
section
variable {P : Program} {w : World} {K : PySem.W.Frag} {base h : Heap} {mg : Str → Option Value}
theorem tup0_ok {a : PySem.W.Frag → Addr} {K : PySem.W.Frag} (h : tup0B a K = true) : KTup K (a K) := by
  unfold tup0B at h
  split at h
  · rename_i c d its n sl e
    obtain ⟨h1, h2⟩ := He.ba h
    have hc : c = "tuple" := of_decide_eq_true h1
    have hi : its = #[] := Array.isEmpty_iff.mp h2
    subst hc hi
    exact fun H => ⟨.inr ⟨_, #[], n, e, rfl, rfl, Nat.zero_le _, .nil⟩, .kTuple e rfl⟩
  · cases h
theorem errF_of {x fld : Str} {fd : FuncData} (g : mg x = some (.ref (He.ga K x))) (b : errB x fld K = true)
    (O : FnOk P w K mg base CX0 3 (He.ma K (He.ga K x) "__init__") fd ["self", fld] (sp_init K fld)) (hb : Binds K fd ["self", fld] []) : ErrF P w K mg base x fld (He.ga K x) := by
  obtain ⟨b0, b4⟩ := He.ba b
  obtain ⟨b1, b⟩ := He.ba b0
  obtain ⟨b2, b3⟩ := He.ba b
  obtain ⟨i1, i2⟩ := iniB_ok b3
  exact ⟨g, excB_ok b1, exrB_ok b2, He.eqO_ok b4, _, fd, i1, i2, O, hb⟩
theorem facts_top (X : K.In h) (G : h.Ns mainGlobals mg) (ct : SaysT fa fn pr ex K) : Top03 P w K mg base (tC K) (dA K) := by
  have c := ct.s
  have d := c.d
  have g := fun (i : Nat) (x : Str) (e : fa[i]? = some (.glo x)) => He.glo_ok X G (d.fact i e)
  have fr := fun (i : Nat) (x : Str) (e : fa[i]? = some (.free x)) => He.free_ok X G (d.fact i e)
  have g_shown := g 0 "shown" rfl
  have g_is_name := g 1 "is_name" rfl
  have g_is_integer := g 2 "is_integer" rfl
  have g_is_list := g 3 "is_list" rfl
  have g_pairs_of := g 4 "pairs_of" rfl
  have g_sums := g 5 "sums" rfl
  have g_is_turn := g 6 "is_turn" rfl
  have g_is_brought := g 7 "is_brought" rfl
  have g_checked_turns := g 8 "checked_turns" rfl
  have g_checked_brings := g 9 "checked_brings" rfl
  have g__law_source := g 10 "_law_source" rfl
  have g__law_draw := g 11 "_law_draw" rfl
  have g__law_pick := g 12 "_law_pick" rfl
  have g__law_order := g 13 "_law_order" rfl
  have g__law_subset := g 14 "_law_subset" rfl
  have g__law_name := g 15 "_law_name" rfl
  have g__law_names := g 16 "_law_names" rfl
  have g__law_some := g 17 "_law_some" rfl
  have g__law_plan := g 18 "_law_plan" rfl
  have g__law_rows_text := g 19 "_law_rows_text" rfl
  have g__law_tried := g 20 "_law_tried" rfl
  have g__law_due := g 21 "_law_due" rfl
  have g__law_is_right := g 22 "_law_is_right" rfl
  have g__law_join_right := g 23 "_law_join_right" rfl
  have g_law := g 24 "law" rfl
  have g_LotError := g 25 "LotError" rfl
  have g_Overlap := g 26 "Overlap" rfl
  have g_Statement := g 27 "Statement" rfl
  have m_isinstance := fr 28 "isinstance" rfl
  have m_str := fr 29 "str" rfl
  have m_int := fr 30 "int" rfl
  have m_bool := fr 31 "bool" rfl
  have m_list := fr 32 "list" rfl
  have m_tuple := fr 33 "tuple" rfl
  have m_dict := fr 34 "dict" rfl
  have m_len := fr 35 "len" rfl
  have m_all := fr 36 "all" rfl
  have m_range := fr 37 "range" rfl
  have m_sorted := fr 38 "sorted" rfl
  have m_set := fr 39 "set" rfl
  have m_ValueError := fr 40 "ValueError" rfl
  obtain ⟨t_MOST_BITS, k_MOST_BITS⟩ := He.int_ok X G (d.fact 41 (f := .int "MOST_BITS" 1000) rfl)
  obtain ⟨t_LETTERS, k_LETTERS⟩ := He.str_ok X G (d.fact 42 (f := .str "LETTERS" "abcdefghijklmnopqrstuvwxyz") rfl)
  obtain ⟨t_MOST_LETTERS, k_MOST_LETTERS⟩ := He.int_ok X G (d.fact 43 (f := .int "MOST_LETTERS" 8) rfl)
  obtain ⟨t_MOST_KINDS, k_MOST_KINDS⟩ := He.int_ok X G (d.fact 44 (f := .int "MOST_KINDS" 3) rfl)
  obtain ⟨t_MOST_BROUGHT, k_MOST_BROUGHT⟩ := He.int_ok X G (d.fact 45 (f := .int "MOST_BROUGHT" 9) rfl)
  obtain ⟨t_NOTHING, k_NOTHING⟩ := He.str_ok X G (d.fact 46 (f := .str "NOTHING" "nothing") rfl)
  have cls_Statement := He.cls_ok (d.fact 47 (f := .cls "Statement") rfl)
  have mkr_Statement := He.mkr_ok (d.fact 48 (f := .mkr "Statement") rfl)
  have meth_Statement___eq__ := He.meth_ok (d.fact 49 (f := .meth "Statement" "__eq__") rfl)
  have meth_Statement___or__ := He.meth_ok (d.fact 50 (f := .meth "Statement" "__or__") rfl)
  have meth_Statement_turns := He.meth_ok (d.fact 51 (f := .meth "Statement" "turns") rfl)
  have meth_Statement_brings := He.meth_ok (d.fact 52 (f := .meth "Statement" "brings") rfl)
  have meth_Statement_reads := He.meth_ok (d.fact 53 (f := .meth "Statement" "reads") rfl)
  have meth_Statement_writes := He.meth_ok (d.fact 54 (f := .meth "Statement" "writes") rfl)
  have meth_Statement_text := He.meth_ok (d.fact 55 (f := .meth "Statement" "text") rfl)
  have noat_Statement__brings := He.noat_ok (d.fact 56 (f := .noat "Statement" "_brings") rfl)
  have noat_Statement__turns := He.noat_ok (d.fact 57 (f := .noat "Statement" "_turns") rfl)
  obtain ⟨fd_shown, F_shown⟩ := d.def_ 0 (d := dF "shown" s_shown) rfl
  obtain ⟨fd_is_name, F_is_name⟩ := d.def_ 1 (d := dF "is_name" s_is_name) rfl
  obtain ⟨fd_is_integer, F_is_integer⟩ := d.def_ 2 (d := dF "is_integer" s_is_integer) rfl
  obtain ⟨fd_is_list, F_is_list⟩ := d.def_ 3 (d := dF "is_list" s_is_list) rfl
  obtain ⟨fd_pairs_of, F_pairs_of⟩ := d.def_ 4 (d := dF "pairs_of" s_pairs_of) rfl
  obtain ⟨fd_sums, F_sums⟩ := d.def_ 5 (d := dF "sums" s_sums) rfl
  obtain ⟨fd_is_turn, F_is_turn⟩ := d.def_ 6 (d := dF "is_turn" s_is_turn) rfl
  obtain ⟨fd_is_brought, F_is_brought⟩ := d.def_ 7 (d := dF "is_brought" s_is_brought) rfl
  obtain ⟨fd_checked_turns, F_checked_turns⟩ := d.def_ 8 (d := dF "checked_turns" s_checked_turns) rfl
  obtain ⟨fd_checked_brings, F_checked_brings⟩ := d.def_ 9 (d := dF "checked_brings" s_checked_brings) rfl
  obtain ⟨fd__law_source, F__law_source⟩ := d.def_ 10 (d := dF "_law_source" s_l_source) rfl
  obtain ⟨fd__law_draw, F__law_draw⟩ := d.def_ 11 (d := dF "_law_draw" s_l_draw) rfl
  obtain ⟨fd__law_pick, F__law_pick⟩ := d.def_ 12 (d := dF "_law_pick" s_l_pick) rfl
  obtain ⟨fd__law_order, F__law_order⟩ := d.def_ 13 (d := dF "_law_order" s_l_order) rfl
  obtain ⟨fd__law_subset, F__law_subset⟩ := d.def_ 14 (d := dF "_law_subset" s_l_subset) rfl
  obtain ⟨fd__law_name, F__law_name⟩ := d.def_ 15 (d := dF "_law_name" s_l_name) rfl
  obtain ⟨fd__law_names, F__law_names⟩ := d.def_ 16 (d := dF "_law_names" s_l_names) rfl
  obtain ⟨fd__law_some, F__law_some⟩ := d.def_ 17 (d := dF "_law_some" s_l_some) rfl
  obtain ⟨fd__law_plan, F__law_plan⟩ := d.def_ 18 (d := dF "_law_plan" s_l_plan) rfl
  obtain ⟨fd__law_rows_text, F__law_rows_text⟩ := d.def_ 19 (d := dF "_law_rows_text" s_l_rows_text) rfl
  obtain ⟨fd__law_tried, F__law_tried⟩ := d.def_ 20 (d := dF "_law_tried" s_l_tried) rfl
  obtain ⟨fd__law_due, F__law_due⟩ := d.def_ 21 (d := dF "_law_due" s_l_due) rfl
  obtain ⟨fd__law_is_right, F__law_is_right⟩ := d.def_ 22 (d := dF "_law_is_right" s_l_is_right) rfl
  obtain ⟨fd__law_join_right, F__law_join_right⟩ := d.def_ 23 (d := dF "_law_join_right" s_l_join_right) rfl
  obtain ⟨fd_law, F_law⟩ := d.def_ 24 (d := dF "law" s_law) rfl
  obtain ⟨fm_LotError___init__, M_LotError___init__⟩ := d.def_ 25 (d := dM "LotError" "__init__" "LotError.__init__" s_LotError___init__ []) rfl
  obtain ⟨fm_Overlap___init__, M_Overlap___init__⟩ := d.def_ 26 (d := dM "Overlap" "__init__" "Overlap.__init__" s_Overlap___init__ []) rfl
  obtain ⟨fm_Statement___init__, M_Statement___init__⟩ := d.def_ 27 (d := dM "Statement" "__init__" "Statement.__init__" s_Statement___init__ [.adr (He.dflAt ("Statement", some "__init__") 0)]) rfl
  obtain ⟨fm_Statement___eq__, M_Statement___eq__⟩ := d.def_ 28 (d := dM "Statement" "__eq__" "Statement.__eq__" s_Statement___eq__ []) rfl
  obtain ⟨fm_Statement___or__, M_Statement___or__⟩ := d.def_ 29 (d := dM "Statement" "__or__" "Statement.__or__" s_Statement___or__ []) rfl
  obtain ⟨fm_Statement_turns, M_Statement_turns⟩ := d.def_ 30 (d := dM "Statement" "turns" "Statement.turns" s_Statement_turns []) rfl
  obtain ⟨fm_Statement_brings, M_Statement_brings⟩ := d.def_ 31 (d := dM "Statement" "brings" "Statement.brings" s_Statement_brings []) rfl
  obtain ⟨fm_Statement_reads, M_Statement_reads⟩ := d.def_ 32 (d := dM "Statement" "reads" "Statement.reads" s_Statement_reads []) rfl
  obtain ⟨fm_Statement_writes, M_Statement_writes⟩ := d.def_ 33 (d := dM "Statement" "writes" "Statement.writes" s_Statement_writes []) rfl
  obtain ⟨fm_Statement_text, M_Statement_text⟩ := d.def_ 34 (d := dM "Statement" "text" "Statement.text" s_Statement_text []) rfl
  have c_shown : Cal P w K mg base 1 "shown" [] (sp_shown) := ⟨_, fd_shown, ["field"], [], g_shown, F_shown.kp, ok_shown F_shown m_isinstance m_str m_int k_MOST_BITS, F_shown.bindsN (fun _ _ _ _ _ _ us hl => match us, hl with | [_], _ => rfl), .nil⟩
  have c_is_name : Cal P w K mg base 1 "is_name" [] (sp_isname K) := ⟨_, fd_is_name, ["thing"], [], g_is_name, F_is_name.kp, ok_is_name F_is_name m_isinstance m_str m_len m_all k_LETTERS k_MOST_LETTERS, F_is_name.bindsN (fun _ _ _ _ _ _ us hl => match us, hl with | [_], _ => rfl), .nil⟩
  have c_is_integer : Cal P w K mg base 1 "is_integer" [] (sp_isint K) := ⟨_, fd_is_integer, ["thing"], [], g_is_integer, F_is_integer.kp, ok_is_integer F_is_integer m_isinstance m_int m_bool, F_is_integer.bindsN (fun _ _ _ _ _ _ us hl => match us, hl with | [_], _ => rfl), .nil⟩
  have c_is_list : Cal P w K mg base 1 "is_list" [] (sp_islist K) := ⟨_, fd_is_list, ["thing"], [], g_is_list, F_is_list.kp, ok_is_list F_is_list m_isinstance m_list m_tuple, F_is_list.bindsN (fun _ _ _ _ _ _ us hl => match us, hl with | [_], _ => rfl), .nil⟩
  have c_pairs_of : Cal P w K mg base 2 "pairs_of" [] (sp_pairs K) := ⟨_, fd_pairs_of, ["thing"], [], g_pairs_of, F_pairs_of.kp, ok_pairs F_pairs_of c_is_list m_isinstance m_dict m_list m_len, F_pairs_of.bindsN (fun _ _ _ _ _ _ us hl => match us, hl with | [_], _ => rfl), .nil⟩
  have c_sums : Cal P w K mg base 1 "sums" [] (sp_sums) := ⟨_, fd_sums, ["one", "other"], [], g_sums, F_sums.kp, ok_sums F_sums, F_sums.bindsN (fun _ _ _ _ _ _ us hl => match us, hl with | [_, _], _ => rfl), .nil⟩
  have c_is_turn : Cal P w K mg base 2 "is_turn" [] (sp_isturn) := ⟨_, fd_is_turn, ["thing"], [], g_is_turn, F_is_turn.kp, ok_is_turn F_is_turn c_is_list c_is_name m_len m_all k_MOST_KINDS, F_is_turn.bindsN (fun _ _ _ _ _ _ us hl => match us, hl with | [_], _ => rfl), .nil⟩
  have c_is_brought : Cal P w K mg base 2 "is_brought" [] (sp_isbrought) := ⟨_, fd_is_brought, ["thing"], [], g_is_brought, F_is_brought.kp, ok_is_brought F_is_brought c_is_integer k_MOST_BROUGHT, F_is_brought.bindsN (fun _ _ _ _ _ _ us hl => match us, hl with | [_], _ => rfl), .nil⟩
  have c_checked_turns : Cal P w K mg base 3 "checked_turns" [] (sp_cturns K) := ⟨_, fd_checked_turns, ["told"], [], g_checked_turns, F_checked_turns.kp, ok_cturns F_checked_turns c_pairs_of c_is_name c_is_turn m_tuple m_sorted, F_checked_turns.bindsN (fun _ _ _ _ _ _ us hl => match us, hl with | [_], _ => rfl), .nil⟩
  have c_checked_brings : Cal P w K mg base 3 "checked_brings" [] (sp_cbrings K) := ⟨_, fd_checked_brings, ["told"], [], g_checked_brings, F_checked_brings.kp, ok_cbrings F_checked_brings c_pairs_of c_is_name c_is_brought m_sorted, F_checked_brings.bindsN (fun _ _ _ _ _ _ us hl => match us, hl with | [_], _ => rfl), .nil⟩
  have c__law_source : Cal P w K mg base 1 "_law_source" [] (sp_source K) := ⟨_, fd__law_source, ["_law_script"], [], g__law_source, F__law_source.kp, ok_source F__law_source m_int, F__law_source.bindsN (fun _ _ _ _ _ _ us hl => match us, hl with | [_], _ => rfl), .nil⟩
  have c__law_draw : Cal P w K mg base 1 "_law_draw" [] (sp_draw) := ⟨_, fd__law_draw, ["_law_source_here", "_law_many"], [], g__law_draw, F__law_draw.kp, ok_draw F__law_draw m_int, F__law_draw.bindsN (fun _ _ _ _ _ _ us hl => match us, hl with | [_, _], _ => rfl), .nil⟩
  have c__law_pick : Cal P w K mg base 2 "_law_pick" [] (sp_pick K) := ⟨_, fd__law_pick, ["_law_source_here", "_law_things"], [], g__law_pick, F__law_pick.kp, ok_pick F__law_pick c__law_draw m_len, F__law_pick.bindsN (fun _ _ _ _ _ _ us hl => match us, hl with | [_, _], _ => rfl), .nil⟩
  have c__law_order : Cal P w K mg base 2 "_law_order" [] (sp_order K) := ⟨_, fd__law_order, ["_law_source_here", "_law_many"], [], g__law_order, F__law_order.kp, ok_order F__law_order c__law_draw m_range m_list m_len, F__law_order.bindsN (fun _ _ _ _ _ _ us hl => match us, hl with | [_, _], _ => rfl), .nil⟩
  have c__law_subset : Cal P w K mg base 2 "_law_subset" [] (sp_subset K) := ⟨_, fd__law_subset, ["_law_source_here", "_law_row"], [], g__law_subset, F__law_subset.kp, ok_subset F__law_subset c__law_draw, F__law_subset.bindsN (fun _ _ _ _ _ _ us hl => match us, hl with | [_, _], _ => rfl), .nil⟩
  have c__law_name : Cal P w K mg base 2 "_law_name" [] (sp_name K) := ⟨_, fd__law_name, ["_law_source_here", "_law_taken"], [], g__law_name, F__law_name.kp, ok_name F__law_name c__law_draw m_range, F__law_name.bindsN (fun _ _ _ _ _ _ us hl => match us, hl with | [_, _], _ => rfl), .nil⟩
  have c__law_names : Cal P w K mg base 3 "_law_names" [] (sp_names K) := ⟨_, fd__law_names, ["_law_source_here", "_law_many"], [], g__law_names, F__law_names.kp, ok_names F__law_names c__law_name m_range, F__law_names.bindsN (fun _ _ _ _ _ _ us hl => match us, hl with | [_, _], _ => rfl), .nil⟩
  have c__law_some : Cal P w K mg base 3 "_law_some" [] (sp_some K) := ⟨_, fd__law_some, ["_law_source_here", "_law_things"], [], g__law_some, F__law_some.kp, ok_some F__law_some c__law_draw c__law_order m_len, F__law_some.bindsN (fun _ _ _ _ _ _ us hl => match us, hl with | [_, _], _ => rfl), .nil⟩
  have c__law_plan : Cal P w K mg base 4 "_law_plan" [] (sp_plan K) := ⟨_, fd__law_plan, ["_law_source_here", "_law_kinds"], [], g__law_plan, F__law_plan.kp, ok_plan F__law_plan c__law_draw c__law_pick c__law_subset c__law_some m_range, F__law_plan.bindsN (fun _ _ _ _ _ _ us hl => match us, hl with | [_, _], _ => rfl), .nil⟩
  have c__law_due : Cal P w K mg base 1 "_law_due" [] (sp_due) := ⟨_, fd__law_due, ["_law_plan_here"], [], g__law_due, F__law_due.kp, ok_due F__law_due m_dict m_tuple, F__law_due.bindsN (fun _ _ _ _ _ _ us hl => match us, hl with | [_], _ => rfl), .nil⟩
  have c__law_rows_text : Cal P w K mg base 1 "_law_rows_text" [] (sp_rowstext) := ⟨_, fd__law_rows_text, ["_law_plan_here"], [], g__law_rows_text, F__law_rows_text.kp, ok_rowstext F__law_rows_text m_sorted m_str, F__law_rows_text.bindsN (fun _ _ _ _ _ _ us hl => match us, hl with | [_], _ => rfl), .nil⟩
  obtain ⟨a1, a⟩ := He.ba (show (_ && _) = true from c.x 0 (e := ex1) rfl)
  obtain ⟨a2, a⟩ := He.ba a
  obtain ⟨a3, a4⟩ := He.ba a
  obtain ⟨k1, k2⟩ := He.ba (show (_ && _) = true from c.x 1 (e := ex2) rfl)
  obtain ⟨o1, o⟩ := He.ba (show (_ && _) = true from c.x 2 (e := ex3) rfl)
  obtain ⟨o2, o⟩ := He.ba o
  obtain ⟨o3, o4⟩ := He.ba o
  have T : StmC K (tC K) := ⟨cls_Statement, noat_Statement__turns, noat_Statement__brings, He.eqO_ok a1, He.eqO_ok a2, of_decide_eq_true a3, of_decide_eq_true a4⟩
  have kt : KTup K (dA K) := tup0_ok (c.x 7 (e := tup0B dA) rfl)
  have OI : FnOk P w K mg base CX0 4 _ fm_Statement___init__ ["self", "turns", "brings"] (sp_sinit K (tC K)) := ok_sinit M_Statement___init__ T c_checked_turns c_checked_brings
  have b3 : Binds K fm_Statement___init__ ["self", "turns", "brings"] [] := by
    obtain ⟨ds, hv, hb⟩ := M_Statement___init__.binds1 (ps := ["self", "turns", "brings"]) 3 1 (List.cons_ne_nil _ _) rfl (fun _ _ _ _ _ _ _ us its h1 h2 => match us, h1, its, h2 with | [_, _, _], _, [_], _ => ⟨_, rfl, rfl⟩)
    cases hv
    exact hb
  have b2 : Binds K fm_Statement___init__ ["self", "turns", "brings"] [.ref (dA K)] := by
    obtain ⟨ds, hv, hb⟩ := M_Statement___init__.binds1 (ps := ["self", "turns", "brings"]) 2 0 (List.cons_ne_nil _ _) rfl (fun _ _ _ _ _ _ _ us its h1 h2 => match us, h1, its, h2 with | [_, _], _, [_], _ => ⟨_, rfl, rfl⟩)
    obtain ⟨u, rfl, ru⟩ := vals1 hv
    obtain rfl : u = Value.ref (dA K) := ru
    exact hb
  have SF : StmF P w K mg base (tC K) (dA K) := ⟨g_Statement, T, kt, _, fm_Statement___init__, mkr_Statement, OI, b3, b2⟩
  have vV := clvB_ok (c.x 6 (e := fun K => clvB K (.type "ValueError") "__init__" (.builtin "ValueError.__init__")) rfl)
  have OL : FnOk P w K mg base CX0 2 _ fm_LotError___init__ ["self", "field"] (sp_lot K) := ok_lot M_LotError___init__ c_shown m_ValueError vV
  have bL : Binds K fm_LotError___init__ ["self", "field"] [] := M_LotError___init__.bindsN (fun _ _ _ _ _ _ us hl => match us, hl with | [_, _], _ => rfl)
  have lot : LotC P w K mg base (He.ga K "LotError") := ⟨g_LotError, crdB_ok (c.x 4 (e := fun K => crdB K (He.ga K "LotError")) rfl), _, fm_LotError___init__, clvB_ok (c.x 5 (e := fun K => clvB K (.ref (He.ga K "LotError")) "__init__" (.ref (He.ma K (He.ga K "LotError") "__init__"))) rfl), M_LotError___init__.kp, OL, bL⟩
  have ov : ErrF P w K mg base "Overlap" "kind" (He.ga K "Overlap") := errF_of g_Overlap (c.x 3 (e := errB "Overlap" "kind") rfl) (ok_Overlap M_Overlap___init__ lot) (M_Overlap___init__.bindsN (fun _ _ _ _ _ _ us hl => match us, hl with | [_, _], _ => rfl))
  have o_eq : OwnF P w K mg base (He.ga K "Statement") 1 "__eq__" (sp_seq K (tC K)) := ⟨⟨_, fm_Statement___eq__, ["self", "other"], meth_Statement___eq__.at_, meth_Statement___eq__.fn, ok_seq M_Statement___eq__ T m_isinstance g_Statement, M_Statement___eq__.bindsN (fun _ _ _ _ _ _ us hl => match us, hl with | [_, _], _ => rfl)⟩⟩
  have m_Statement_turns : CalM P w K mg base (He.ga K "Statement") 1 "turns" (sp_sturns (tC K)) := ⟨⟨_, fm_Statement_turns, ["self"], meth_Statement_turns, ok_sturns M_Statement_turns T m_dict, M_Statement_turns.bindsN (fun _ _ _ _ _ _ us hl => match us, hl with | [_], _ => rfl)⟩⟩
  have m_Statement_brings : CalM P w K mg base (He.ga K "Statement") 1 "brings" (sp_sbrings (tC K)) := ⟨⟨_, fm_Statement_brings, ["self"], meth_Statement_brings, ok_sbrings M_Statement_brings T m_dict, M_Statement_brings.bindsN (fun _ _ _ _ _ _ us hl => match us, hl with | [_], _ => rfl)⟩⟩
  have m_Statement_reads : CalM P w K mg base (He.ga K "Statement") 1 "reads" (sp_sreads (tC K)) := ⟨⟨_, fm_Statement_reads, ["self"], meth_Statement_reads, ok_sreads M_Statement_reads T m_list, M_Statement_reads.bindsN (fun _ _ _ _ _ _ us hl => match us, hl with | [_], _ => rfl)⟩⟩
  have m_Statement_writes : CalM P w K mg base (He.ga K "Statement") 1 "writes" (sp_swrites (tC K)) := ⟨⟨_, fm_Statement_writes, ["self"], meth_Statement_writes, ok_swrites M_Statement_writes T m_sorted m_set, M_Statement_writes.bindsN (fun _ _ _ _ _ _ us hl => match us, hl with | [_], _ => rfl)⟩⟩
  have m_Statement_text : CalM P w K mg base (He.ga K "Statement") 1 "text" (sp_stext (tC K)) := ⟨⟨_, fm_Statement_text, ["self"], meth_Statement_text, ok_stext M_Statement_text T m_str k_NOTHING, M_Statement_text.bindsN (fun _ _ _ _ _ _ us hl => match us, hl with | [_], _ => rfl)⟩⟩
  have OO : FnOk P w K mg base (L2.CX P w) 6 _ fm_Statement___or__ ["self", "other"] (sp_sor (tC K) (He.ga K "Overlap")) := ok_sor M_Statement___or__ SF c_sums ov m_isinstance m_sorted k_MOST_BROUGHT
  have orf : OrF P w K mg base (tC K) (He.ga K "Overlap") := ⟨o3, _, fm_Statement___or__, meth_Statement___or__.at_, meth_Statement___or__.fn, OO, M_Statement___or__.bindsN (fun _ _ _ _ _ _ us hl => match us, hl with | [_, _], _ => rfl)⟩
  have MM : Meths P w K mg base (tC K) := ⟨cls_Statement, m_Statement_turns, m_Statement_brings, m_Statement_reads, m_Statement_writes, m_Statement_text⟩
  have c__law_tried : Cal P w K mg base 7 "_law_tried" [] (sp_tried (tC K)) := ⟨_, fd__law_tried, ["_law_one", "_law_other"], [], g__law_tried, F__law_tried.kp, ok_tried F__law_tried ov orf (of_decide_eq_true k2), F__law_tried.bindsN (fun _ _ _ _ _ _ us hl => match us, hl with | [_, _], _ => rfl), .nil⟩
  have c__law_is_right : Cal P w K mg base 2 "_law_is_right" [] (sp_isright (tC K)) := ⟨_, fd__law_is_right, ["_law_statement", "_law_plan_here"], [], g__law_is_right, F__law_is_right.kp, ok_isright F__law_is_right c__law_due MM m_list m_sorted m_set, F__law_is_right.bindsN (fun _ _ _ _ _ _ us hl => match us, hl with | [_, _], _ => rfl), .nil⟩
  have c__law_join_right : Cal P w K mg base 8 "_law_join_right" [] (sp_joinright K (tC K)) := ⟨_, fd__law_join_right, ["_law_one", "_law_other", "_law_plans", "_law_kinds"], [], g__law_join_right, F__law_join_right.kp, ok_joinright F__law_join_right c__law_tried c__law_is_right c__law_rows_text MM m_dict m_list m_sorted, F__law_join_right.bindsN (fun _ _ _ _ _ _ us hl => match us, hl with | [_, _, _, _], _ => rfl), .nil⟩
  exact ⟨c__law_source, c__law_draw, c__law_names, c__law_plan, c__law_due, c__law_is_right, c__law_join_right, SF, MM, o_eq, He.eqO_ok o1, of_decide_eq_true o2, o4, of_decide_eq_true k1, m_dict, m_list⟩
end
end Lw
/-! ## Kz -/
set_option Elab.async false
set_option linter.all false
set_option maxRecDepth 100000
set_option maxHeartbeats 0
open PySem PySem.W PySem.Calls PyProof.Rows
theorem PySem.Challenge.cw_statementlots_k03_statements_made_holds : PySem.Challenge.rw_statementlots_k03_statements_made.Holds := by
  w_on; o_law
  refine HandSHeadRun.head_any (r := OpenLaw.row PySem.Challenge.rw_statementlots_k03_statements_made) (q := view (OpenLaw.row PySem.Challenge.rw_statementlots_k03_statements_made).prog [39]) (H := Lw.hk) (ob := Lw.ob) (M := 5000) (loose := Lw.loose) (d := HandSHeadRun.topDef (OpenLaw.row PySem.Challenge.rw_statementlots_k03_statements_made).prog 39) (kwd := []) Lw.ob_eq
    (by kernel_rfl) (fun s => by kernel_rfl) Lw.run (by kernel_rfl) (by kernel_rfl) (by kernel_rfl) (by rfl) (by first | assumption | decide +kernel) (by decide +kernel) ⟨rfl, rfl, rfl, rfl, rfl, by decide +kernel⟩ ?hw ?hc
  case hw => w_witness2
  case hc =>
    refine L2.walk_ofE (l := PySem.Challenge.rw_statementlots_k03_statements_made) (n := 63) (k := 9) (x := "_law_script") (CX := L2.CX0) rfl (by decide) (by kernel_rfl) ⟨rfl, by decide, by decide⟩ ?F (fun _ _ _ _ z => z)
    intro w mg fa h Y G hmg0
    obtain ⟨K, KX, ct⟩ := Y
    have c := ct.s
    have hmg : mg ("law" : PySem.Str) = some (.ref fa) := by
      have e : (HandSHeadRun.topDef (OpenLaw.row PySem.Challenge.rw_statementlots_k03_statements_made).prog 39).name = ("law" : PySem.Str) := by kernel_rfl
      rw [← e]
      exact hmg0
    obtain ⟨fd, F⟩ := c.d.def_ 24 (d := Lw.dF "law" Lw.s_law) rfl
    have e := hmg.symm.trans (He.glo_ok KX G (c.d.fact 24 (f := .glo "law") rfl))
    cases e
    have b := L2.FunD.bindsA (ps := ["_law_script"]) F fun _ _ _ _ _ _ us hl => match us, hl with | [_], _ => rfl
    exact ⟨K, fd, Lw.sp_law K, KX, fun s v => b s [v] rfl, fun H a ns hl _ hS => ⟨a, ns, rfl, hS, hl, fun _ => rfl⟩, fun base _ _ => Lw.ok_law F (Lw.facts_top KX G ct)⟩
#print axioms PySem.Challenge.cw_statementlots_k03_statements_made_holds
