import PyProof.Rows.All
import Wide.All
import OpenK.AllK
import Wide.FinOn
import HandS.ForMost
import HandS.ForExc
import HandS.Wide
import HandS.Defaults
import HandS.IsInst
import HandS.Conv
import PySem.Challenge.RW_statementlots_k06_forms_made
import HandS.Text
import HandS.List
import HandS.Words
import HandS.Walk
import HandS.Dict
import PyProof.DictUpdate
import PyProof.MeetsSeq2
import HandS.Iter
import HandS.Sort
import PyProof.SumWalkG
import HandS.DictComp
import HandS.More
import KE.KEqDict
import PyProof.Rows.SortStr
import PyProof.Rows.StrMeet
import HandS.ListItems
import HandS.Flow
import HandS.OwnEq
import PyProof.InstNe
import OpenK.KMeth
import HandS.Property
import HandS.ExcInit
import HandS.ClsMeth
import HandS.ExcIs
import HandS.Head0
import HandS.Head1
import HandS.Head2
import HandS.HeadEnd
import HandS.HeadHook1
import HandS.HeadHook2
import HandS.DeepEq
import HandS.WideBits
import KE.KOpsOwn
import HandS.Finally
import HandS.Style
/-! ## SlBase -/
set_option Elab.async false
set_option linter.all false
set_option maxRecDepth 100000
set_option maxHeartbeats 4000000
namespace Sl
open PySem PySem.Spec PyProof.Rows L2

/-- a def of the top that lets no exception out: what it promises, at most k levels deep -/
structure Cal (P : Program) (w : World) (K : PySem.W.Frag) (mg : Str → Option Value) (base : Heap) (k : Nat) (x : Str) (dvs : List V) (sp : Sp) : Prop where
  ex : ∃ (f : Addr) (fd : FuncData) (ps : List Str) (ds : List Value), mg x = some (.ref f) ∧ PySem.W.keepIn K (.ref f) = true ∧ FnOk P w K mg base CX0 k f fd ps sp ∧ Binds K fd ps ds ∧ Vals dvs ds
theorem pe_cal {X : Cx} {x : Str} {e : Expr} {es : List Expr} {p pos : Pos} {k : Nat} {dvs : List V} {sp : Sp} {t : TA} (h : Cal X.prog X.w X.K X.mg X.base k x dvs sp) (hr : Room k X.A) (ha : PA X (e :: es) t) (hg : Gl X x := by rfl)
    (hdb : (x == ("__debug__" : Str)) = false := by decide) (he : starEach (e :: es) X.env = (false, eval e X.env) :: starEach es X.env := by rfl) (hpl : (backTo pos (starEach es X.env)).any (·.1) = false := by rfl) :
    PE X (.Call (.Name x p) (e :: es) [] pos) (tCall sp dvs E0 t) := by
  obtain ⟨f, fd, ps, ds, hm, hk, F, hb, hd⟩ := h.ex
  exact pe_call F hr hg hm hk hb hd pass0 ha hdb he hpl

theorem atI_int {α : Type} {xs : List α} {j : Int} {v : α} (h0 : 0 ≤ j) (h : xs[j.toNat]? = some v) : atI xs j = some v := by
  have e := atI_nat h
  rwa [Int.toNat_of_nonneg h0] at e
/-! ### the source of draws -/
def SrcAt (H : Hp) (p : Addr) (n : Nat) : Prop := ∃ g s c : Int, H p = some (.lst [.int g, .int s, .int c]) ∧ 0 ≤ s ∧ s < 2147483647 ∧ 0 ≤ c ∧ c ≤ n
/-- all but p stands -/
def Keep (p : Addr) (H H' : Hp) : Prop := ∀ b o, b ≠ p → H b = some o → H' b = some o
theorem Keep.refl (p : Addr) (H : Hp) : Keep p H H := fun _ _ _ h => h
theorem Keep.trans {p : Addr} {H H1 H2 : Hp} (a : Keep p H H1) (b : Keep p H1 H2) : Keep p H H2 := fun c o n h => b c o n (a c o n h)
theorem Keep.upd {p : Addr} {H : Hp} {o : HO} : Keep p H (upd H p o) := fun b u n h => by rw [upd_ne n]; exact h
theorem Keep.new {p q : Addr} {H : Hp} {o : HO} (hq : H q = none) : Keep p H (L2.upd H q o) := fun b u n h => by rw [upd_ne (ne_of_none h hq)]; exact h
theorem Keep.seq {K : PySem.W.Frag} {p a : Addr} {H H' : Hp} {xs : List V} (k : Keep p H H') (n : a ≠ p) (h : SqL K H a xs) : SqL K H' a xs := by
  rcases h with (h | ⟨o, h⟩) | h
  · exact .inl (.inl (k _ _ n h))
  · exact .inl (.inr ⟨o, k _ _ n h⟩)
  · exact .inr h
theorem SrcAt.mono {H : Hp} {p : Addr} {n m : Nat} (h : SrcAt H p n) (l : n ≤ m) : SrcAt H p m := by
  obtain ⟨g, s, c, e, a1, a2, a3, a4⟩ := h
  exact ⟨g, s, c, e, a1, a2, a3, by omega⟩
theorem SrcAt.there {H : Hp} {p : Addr} {n : Nat} (h : SrcAt H p n) : ∃ o, H p = some o := let ⟨_, _, _, e, _⟩ := h; ⟨_, e⟩
theorem SrcAt.new {H : Hp} {p q : Addr} {n : Nat} {o : HO} (h : SrcAt H p n) (hq : H q = none) : SrcAt (L2.upd H q o) p n := by
  obtain ⟨g, s, c, e, a⟩ := h
  exact ⟨g, s, c, by rw [upd_ne (ne_of_none e hq)]; exact e, a⟩
theorem Keep.free {p q : Addr} {H H' : Hp} (k : Keep p H H') (hp : ∃ o, H' p = some o) (hq : H' q = none) : H q = none := by
  cases e : H q with
  | none => rfl
  | some u =>
    by_cases z : q = p
    · subst z
      obtain ⟨o, ho⟩ := hp
      rw [hq] at ho
      cases ho
    · rw [k q u z e] at hq
      cases hq

def sp_draw : Sp := fun vs H Q _ => ∃ (p : Addr) (m : Int) (n : Nat), vs = [.ref p, .int m] ∧ SrcAt H p n ∧ n ≤ 100000 ∧ 0 < m ∧ m < 2 ^ 200 ∧
  ∀ (k : Int) (H' : Hp), 0 ≤ k → k < m → SrcAt H' p (n + 1) → Keep p H H' → Q (.int k) H'
def sp_source (K : PySem.W.Frag) : Sp := fun vs H Q _ => ∃ (a : Addr) (ns : List Int), vs = [.ref a] ∧ SqL K H a (ns.map V.int) ∧ ns.length ≤ 63 ∧
  ∀ (p : Addr) (H' : Hp), H p = none → SrcAt H' p 0 → (∀ b o, H b = some o → H' b = some o) → Q (.ref p) H'
end Sl
/-! ## HdText -/
set_option Elab.async false
set_option linter.all false
set_option maxRecDepth 100000
set_option maxHeartbeats 4000000
namespace Lw
open PySem PySem.Spec PyProof.Rows L2 Sl
def top (i : Nat) : Stmt := PySem.Challenge.pw_statementlots_k06_forms_made.main.body.getD i (.Pass ⟨0, 0, 0, 0⟩)
abbrev s__wall : Stmt := top 0
/-- slots: 0 k -/
theorem sc__wall : FnScope ["k"] ["k"] (defScope s__wall) := ⟨rfl, rfl, rfl, by decide +kernel, rfl, by decide +kernel, by decide +kernel⟩
abbrev s_shown : Stmt := top 3
/-- slots: 0 field -/
theorem sc_shown : FnScope ["field"] ["field"] (defScope s_shown) := ⟨rfl, rfl, rfl, by decide +kernel, rfl, by decide +kernel, by decide +kernel⟩
abbrev s_LotError___init__ : Stmt := inClass (top 4) 0
/-- slots: 0 self 1 field -/
theorem sc_LotError___init__ : FnScope ["self", "field"] ["self", "field"] (defScope s_LotError___init__) := ⟨rfl, rfl, rfl, by decide +kernel, rfl, by decide +kernel, by decide +kernel⟩
abbrev s_BadForm___init__ : Stmt := inClass (top 5) 0
/-- slots: 0 self 1 word -/
theorem sc_BadForm___init__ : FnScope ["self", "word"] ["self", "word"] (defScope s_BadForm___init__) := ⟨rfl, rfl, rfl, by decide +kernel, rfl, by decide +kernel, by decide +kernel⟩
abbrev s_BadNumber___init__ : Stmt := inClass (top 6) 0
/-- slots: 0 self 1 number -/
theorem sc_BadNumber___init__ : FnScope ["self", "number"] ["self", "number"] (defScope s_BadNumber___init__) := ⟨rfl, rfl, rfl, by decide +kernel, rfl, by decide +kernel, by decide +kernel⟩
abbrev s_figures_of : Stmt := top 8
/-- slots: 0 number 1 rest 2 parts 3 low -/
theorem sc_figures_of : FnScope ["number", "rest", "parts", "low"] ["number"] (defScope s_figures_of) := ⟨rfl, rfl, rfl, by decide +kernel, rfl, by decide +kernel, by decide +kernel⟩
abbrev s_is_name : Stmt := top 12
/-- slots: 0 thing 1 letter -/
theorem sc_is_name : FnScope ["thing", "letter"] ["thing"] (defScope s_is_name) := ⟨rfl, rfl, rfl, by decide +kernel, rfl, by decide +kernel, by decide +kernel⟩
abbrev s_is_integer : Stmt := top 13
/-- slots: 0 thing -/
theorem sc_is_integer : FnScope ["thing"] ["thing"] (defScope s_is_integer) := ⟨rfl, rfl, rfl, by decide +kernel, rfl, by decide +kernel, by decide +kernel⟩
abbrev s_sums : Stmt := top 14
/-- slots: 0 one 1 other 2 name -/
theorem sc_sums : FnScope ["one", "other", "name"] ["one", "other"] (defScope s_sums) := ⟨rfl, rfl, rfl, by decide +kernel, rfl, by decide +kernel, by decide +kernel⟩
abbrev s_is_of_lot : Stmt := top 18
/-- slots: 0 text -/
theorem sc_is_of_lot : FnScope ["text"] ["text"] (defScope s_is_of_lot) := ⟨rfl, rfl, rfl, by decide +kernel, rfl, by decide +kernel, by decide +kernel⟩
abbrev s_name_in : Stmt := top 19
/-- slots: 0 word -/
theorem sc_name_in : FnScope ["word"] ["word"] (defScope s_name_in) := ⟨rfl, rfl, rfl, by decide +kernel, rfl, by decide +kernel, by decide +kernel⟩
abbrev s_is_word : Stmt := top 20
/-- slots: 0 thing -/
theorem sc_is_word : FnScope ["thing"] ["thing"] (defScope s_is_word) := ⟨rfl, rfl, rfl, by decide +kernel, rfl, by decide +kernel, by decide +kernel⟩
abbrev s_checked_parts : Stmt := top 23
/-- slots: 0 told 1 word 2 times -/
theorem sc_checked_parts : FnScope ["told", "word", "times"] ["told"] (defScope s_checked_parts) := ⟨rfl, rfl, rfl, by decide +kernel, rfl, by decide +kernel, by decide +kernel⟩
abbrev s_Form___init__ : Stmt := inClass (top 24) 0
/-- slots: 0 self 1 parts 2 number -/
theorem sc_Form___init__ : FnScope ["self", "parts", "number"] ["self", "parts", "number"] (defScope s_Form___init__) := ⟨rfl, rfl, rfl, by decide +kernel, rfl, by decide +kernel, by decide +kernel⟩
abbrev s_Form___eq__ : Stmt := inClass (top 24) 1
/-- slots: 0 self 1 other -/
theorem sc_Form___eq__ : FnScope ["self", "other"] ["self", "other"] (defScope s_Form___eq__) := ⟨rfl, rfl, rfl, by decide +kernel, rfl, by decide +kernel, by decide +kernel⟩
abbrev s_Form___add__ : Stmt := inClass (top 24) 2
/-- slots: 0 self 1 other -/
theorem sc_Form___add__ : FnScope ["self", "other"] ["self", "other"] (defScope s_Form___add__) := ⟨rfl, rfl, rfl, by decide +kernel, rfl, by decide +kernel, by decide +kernel⟩
abbrev s_Form___sub__ : Stmt := inClass (top 24) 3
/-- slots: 0 self 1 other 2 less 3 word 4 times -/
theorem sc_Form___sub__ : FnScope ["self", "other", "less", "word", "times"] ["self", "other"] (defScope s_Form___sub__) := ⟨rfl, rfl, rfl, by decide +kernel, rfl, by decide +kernel, by decide +kernel⟩
abbrev s_Form___mul__ : Stmt := inClass (top 24) 4
/-- slots: 0 self 1 other 2 word 3 times -/
theorem sc_Form___mul__ : FnScope ["self", "other", "word", "times"] ["self", "other"] (defScope s_Form___mul__) := ⟨rfl, rfl, rfl, by decide +kernel, rfl, by decide +kernel, by decide +kernel⟩
abbrev s_Form_integer : Stmt := inClass (top 24) 5
/-- slots: 0 self -/
theorem sc_Form_integer : FnScope ["self"] ["self"] (defScope s_Form_integer) := ⟨rfl, rfl, rfl, by decide +kernel, rfl, by decide +kernel, by decide +kernel⟩
abbrev s_Form_parts : Stmt := inClass (top 24) 6
/-- slots: 0 self -/
theorem sc_Form_parts : FnScope ["self"] ["self"] (defScope s_Form_parts) := ⟨rfl, rfl, rfl, by decide +kernel, rfl, by decide +kernel, by decide +kernel⟩
abbrev s_Form_of : Stmt := inClass (top 24) 7
/-- slots: 0 self 1 worths 2 word 3 times -/
theorem sc_Form_of : FnScope ["self", "worths", "word", "times"] ["self", "worths"] (defScope s_Form_of) := ⟨rfl, rfl, rfl, by decide +kernel, rfl, by decide +kernel, by decide +kernel⟩
abbrev s_Form_text : Stmt := inClass (top 24) 8
/-- slots: 0 self 1 texts 2 word 3 times -/
theorem sc_Form_text : FnScope ["self", "texts", "word", "times"] ["self"] (defScope s_Form_text) := ⟨rfl, rfl, rfl, by decide +kernel, rfl, by decide +kernel, by decide +kernel⟩
abbrev s_Form_parse : Stmt := inClass (top 24) 9
/-- slots: 0 cls 1 text -/
theorem sc_Form_parse : FnScope ["cls", "text"] ["cls", "text"] (defScope s_Form_parse) := ⟨rfl, rfl, rfl, by decide +kernel, rfl, by decide +kernel, by decide +kernel⟩
abbrev s_l_source : Stmt := top 26
/-- slots: 0 _law_script 1 _law_great 2 _law_seed 3 _law_cell -/
theorem sc_l_source : FnScope ["_law_script", "_law_great", "_law_seed", "_law_cell"] ["_law_script"] (defScope s_l_source) := ⟨rfl, rfl, rfl, by decide +kernel, rfl, by decide +kernel, by decide +kernel⟩
abbrev s_l_draw : Stmt := top 27
/-- slots: 0 _law_source_here 1 _law_many 2 _law_digit 3 _law_mixed -/
theorem sc_l_draw : FnScope ["_law_source_here", "_law_many", "_law_digit", "_law_mixed"] ["_law_source_here", "_law_many"] (defScope s_l_draw) := ⟨rfl, rfl, rfl, by decide +kernel, rfl, by decide +kernel, by decide +kernel⟩
abbrev s_l_order : Stmt := top 28
/-- slots: 0 _law_source_here 1 _law_many 2 _law_left 3 _law_k -/
theorem sc_l_order : FnScope ["_law_source_here", "_law_many", "_law_left", "_law_k"] ["_law_source_here", "_law_many"] (defScope s_l_order) := ⟨rfl, rfl, rfl, by decide +kernel, rfl, by decide +kernel, by decide +kernel⟩
abbrev s_l_subset : Stmt := top 29
/-- slots: 0 _law_source_here 1 _law_row 2 _law_one -/
theorem sc_l_subset : FnScope ["_law_source_here", "_law_row", "_law_one"] ["_law_source_here", "_law_row"] (defScope s_l_subset) := ⟨rfl, rfl, rfl, by decide +kernel, rfl, by decide +kernel, by decide +kernel⟩
abbrev s_l_name : Stmt := top 30
/-- slots: 0 _law_source_here 1 _law_taken 2 _law_size 3 _law_name_here 4 _law_k 5 _law_sign 6 _law_one -/
theorem sc_l_name : FnScope ["_law_source_here", "_law_taken", "_law_size", "_law_name_here", "_law_k", "_law_sign", "_law_one"] ["_law_source_here", "_law_taken"] (defScope s_l_name) := ⟨rfl, rfl, rfl, by decide +kernel, rfl, by decide +kernel, by decide +kernel⟩
abbrev s_l_names : Stmt := top 31
/-- slots: 0 _law_source_here 1 _law_many 2 _law_names_here 3 _law_k -/
theorem sc_l_names : FnScope ["_law_source_here", "_law_many", "_law_names_here", "_law_k"] ["_law_source_here", "_law_many"] (defScope s_l_names) := ⟨rfl, rfl, rfl, by decide +kernel, rfl, by decide +kernel, by decide +kernel⟩
abbrev s_l_some : Stmt := top 32
/-- slots: 0 _law_source_here 1 _law_things 2 _law_found 3 _law_k -/
theorem sc_l_some : FnScope ["_law_source_here", "_law_things", "_law_found", "_law_k"] ["_law_source_here", "_law_things"] (defScope s_l_some) := ⟨rfl, rfl, rfl, by decide +kernel, rfl, by decide +kernel, by decide +kernel⟩
abbrev s_l_lots : Stmt := top 33
/-- slots: 0 _law_kinds 1 _law_kind -/
theorem sc_l_lots : FnScope ["_law_kinds", "_law_kind"] ["_law_kinds"] (defScope s_l_lots) := ⟨rfl, rfl, rfl, by decide +kernel, rfl, by decide +kernel, by decide +kernel⟩
abbrev s_l_big : Stmt := top 34
/-- slots: 0 _law_source_here -/
theorem sc_l_big : FnScope ["_law_source_here"] ["_law_source_here"] (defScope s_l_big) := ⟨rfl, rfl, rfl, by decide +kernel, rfl, by decide +kernel, by decide +kernel⟩
abbrev s_l_less : Stmt := top 35
/-- slots: 0 _law_parts 1 _law_word -/
theorem sc_l_less : FnScope ["_law_parts", "_law_word"] ["_law_parts"] (defScope s_l_less) := ⟨rfl, rfl, rfl, by decide +kernel, rfl, by decide +kernel, by decide +kernel⟩
abbrev s_l_is_right : Stmt := top 36
/-- slots: 0 _law_form 1 _law_parts 2 _law_number 3 _law_worths 4 _law_due 5 _law_word -/
theorem sc_l_is_right : FnScope ["_law_form", "_law_parts", "_law_number", "_law_worths", "_law_due", "_law_word"] ["_law_form", "_law_parts", "_law_number", "_law_worths"] (defScope s_l_is_right) := ⟨rfl, rfl, rfl, by decide +kernel, rfl, by decide +kernel, by decide +kernel⟩
abbrev s_law : Stmt := top 37
/-- slots: 0 _law_script 1 _law_source_here 2 _law_names_here 3 _law_words 4 _law_pairs 5 _law_k 6 _law_some_here 7 _law_worths 8 _law_handed 9 _law_one 10 _law_other 11 _law_held 12 _law_same 13 _law_times 14 _law_sums 15 _law_less_here 16 _law_many 17 _law_word -/
theorem sc_law : FnScope ["_law_script", "_law_source_here", "_law_names_here", "_law_words", "_law_pairs", "_law_k", "_law_some_here", "_law_worths", "_law_handed", "_law_one", "_law_other", "_law_held", "_law_same", "_law_times", "_law_sums", "_law_less_here", "_law_many", "_law_word"] ["_law_script"] (defScope s_law) := ⟨rfl, rfl, rfl, by decide +kernel, rfl, by decide +kernel, by decide +kernel⟩
end Lw
/-! ## Src -/
set_option Elab.async false
set_option linter.all false
set_option maxRecDepth 100000
set_option maxHeartbeats 4000000
namespace Lw
open PySem PySem.Spec PyProof.Rows L2 Sl
section
variable {P : Program} {w : World} {K : PySem.W.Frag} {mg : Str → Option Value} {base : Heap} {f : Addr} {fd : FuncData}
abbrev FnP (K : PySem.W.Frag) (x : Str) (st : Stmt) (dvs : List V) (f : Addr) (fd : FuncData) : Prop := FunD K x x (defArgs st) (defBody st) (defScope st) dvs [] f fd
theorem ok_draw (F : FnP K "_law_draw" s_l_draw [] f fd) (mInt : mg "int" = none) : FnOk P w K mg base CX0 1 f fd ["_law_source_here", "_law_many"] sp_draw := by
  refine F.ok sc_l_draw (fun vs H Q E h => ?_) (fun cdv A outer s H vs Q E hr h => ?_)
  · obtain ⟨p, m, n, rfl, _⟩ := h
    rfl
  · obtain ⟨p, m, n, rfl, ⟨g, sd, c, hp, s0, s1, c0, c1⟩, hn, hm, hm2, k⟩ := h
    have nd := sc_l_draw.nd
    refine ⟨_, PSs.nox (pss_cons (ps_asg (pe_op op_add (pe_ix ix_list (pv 0) pe_int (fun _ _ => rfl)) pe_int) (pg_sub (pv 0) pe_int set_list))
      (pss_cons (ps_if (pt_cmpR op_gt (pe_ix ix_list (pv 0) pe_int (fun _ _ => rfl)) pe_int (nomark _))
        (pss_cons (ps_set (i := 2) nd rfl (.inl rfl) (pe_op op_mod (pe_callTy call_int1 (by rfl) mInt boot_int (pa_cons (pe_ix ix_list (pv 0) pe_int (fun _ _ => rfl)) pa_nil)) (pv 1)))
        (pss_cons (ps_asg (pe_op op_fdivW (pe_ix ix_list (pv 0) pe_int (fun _ _ => rfl)) (pv 1)) (pg_sub (pv 0) pe_int set_list))
        (pss_one (ps_ret (pv 2))))) pss_nil)
      (pss_cons (ps_set (i := 3) nd rfl (.inl rfl) (pe_op op_mod (pe_op op_pow (pe_op op_add (pe_ix ix_list (pv 0) pe_int (fun _ _ => rfl)) (pe_op op_mul pe_int (pe_ix ix_list (pv 0) pe_int (fun _ _ => rfl)))) pe_int) pe_int))
      (pss_one (ps_ret (pe_op op_mod (pe_op op_mod (pe_op op_pow (pe_op op_add (pe_op op_add (pe_op op_mul (pv 3) pe_int) (pe_op op_mul (pe_op op_mul pe_int (pe_ix ix_list (pv 0) pe_int (fun _ _ => rfl))) (pe_ix ix_list (pv 0) pe_int (fun _ _ => rfl)))) pe_int) pe_int) pe_int) (pv 1))))))), ?_⟩
    refine ⟨_, rfl, p, _, _, _, rfl, rfl, SqL.of hp, rfl, _, _, rfl, rfl, _, rfl, p, _, _, 2, rfl, rfl, hp, rfl, ?_⟩
    have h1 : (upd H p (.lst [V.int g, V.int sd, V.int (c + 1)])) p = some (.lst [V.int g, V.int sd, V.int (c + 1)]) := upd_same
    refine ⟨_, rfl, p, _, _, _, rfl, rfl, SqL.of h1, rfl, _, _, rfl, rfl, _, rfl, ?_⟩
    refine ite2 (fun _ => ?_) (fun _ => ?_)
    · refine ⟨_, rfl, p, _, _, _, rfl, rfl, SqL.of h1, rfl, .inl ⟨_, rfl, _, rfl, _, _, rfl, rfl, hm, ?_⟩⟩
      refine ⟨_, rfl, p, _, _, _, rfl, rfl, SqL.of h1, rfl, _, rfl, _, _, rfl, rfl, wide_div (b := 200) hm (by omega) (by decide) (by decide), _, rfl, p, _, _, 0, rfl, rfl, h1, rfl, ?_⟩
      refine ⟨_, rfl, ?_⟩
      refine k _ _ (Int.emod_nonneg _ (by omega)) (Int.emod_lt_of_pos _ hm) ⟨g / m, sd, c + 1, upd_same, s0, s1, by omega, by omega⟩ ?_
      intro b o nb hb
      rw [upd_ne nb, upd_ne nb]
      exact hb
    · refine ⟨_, rfl, p, _, _, _, rfl, rfl, SqL.of h1, rfl, _, rfl, p, _, _, _, rfl, rfl, SqL.of h1, rfl, _, _, rfl, rfl, .inl (by decide), _, _, rfl, rfl, _, _, rfl, rfl, ⟨by decide, by decide, by omega⟩, _, _, rfl, rfl, (by show (0 : Int) < 2147483629; decide), ?_⟩
      generalize hz : (sd + 7919 * (c + 1)) ^ (5 : Int).toNat % 2147483629 = z
      have z0 : 0 ≤ z := by rw [← hz]; exact Int.emod_nonneg _ (by decide)
      have z1 : z < 2147483629 := by rw [← hz]; exact Int.emod_lt_of_pos _ (by decide)
      have cc : (16807 * (c + 1)) * (c + 1) ≤ 16807 * 100001 * 100001 := by
        exact Int.mul_le_mul (show 16807 * (c + 1) ≤ 16807 * 100001 by omega) (show c + 1 ≤ 100001 by omega) (by omega) (by omega)
      have cc0 : 0 ≤ (16807 * (c + 1)) * (c + 1) := Int.mul_nonneg (by omega) (by omega)
      refine ⟨_, rfl, _, _, rfl, rfl, .inr (by decide), _, rfl, p, _, _, _, rfl, rfl, SqL.of h1, rfl, _, _, rfl, rfl, .inl (by decide), _, rfl, p, _, _, _, rfl, rfl, SqL.of h1, rfl, _, _, rfl, rfl, .inl ⟨by omega, by omega⟩, _, _, rfl, rfl, _, _, rfl, rfl, _, _, rfl, rfl, ⟨by decide, by decide, by omega⟩, _, _, rfl, rfl, (by show (0 : Int) < 1000000007; decide), _, rfl, _, _, rfl, rfl, hm, ?_⟩
      refine k _ _ (Int.emod_nonneg _ (by omega)) (Int.emod_lt_of_pos _ hm) ⟨g, sd, c + 1, h1, s0, s1, by omega, by omega⟩ Keep.upd
end
end Lw
/-! ## Src2 -/
set_option Elab.async false
set_option linter.all false
set_option maxRecDepth 100000
set_option maxHeartbeats 4000000
namespace Lw
open PySem PySem.Spec PyProof.Rows L2 Sl
section
variable {P : Program} {w : World} {K : PySem.W.Frag} {mg : Str → Option Value} {base : Heap} {f : Addr} {fd : FuncData}
theorem ok_source (F : FnP K "_law_source" s_l_source [] f fd) (mInt : mg "int" = none) : FnOk P w K mg base CX0 1 f fd ["_law_script"] (sp_source K) := by
  refine F.ok sc_l_source (fun vs H Q E h => ?_) (fun cdv A outer s H vs Q E hr h => ?_)
  · obtain ⟨a, ns, rfl, _⟩ := h
    rfl
  · obtain ⟨a, ns, rfl, hS, hl, k⟩ := h
    have nd := sc_l_source.nd
    refine ⟨_, PSs.nox (pss_cons (ps_asg (pe_tup (pa_cons pe_int (pa_cons pe_int pa_nil))) (pg_tup rfl (pgs_cons (pg_name (i := 1) nd rfl (.inl rfl)) (pgs_cons (pg_name (i := 2) nd rfl (.inl rfl)) pgs_nil))))
      (pss_cons (ps_for PassesOwn.never rfl (pi_list (pv 0)) (pg_name (i := 3) nd rfl (Or.inl rfl))
        (pss_cons (ps_if (PW.pt (pw_and (pt_cmpR op_eq (pv 1) pe_int (nomark _)) (pw_and1 (pt_cmpR op_ge (pv 3) (pe_op op_pow pe_int pe_int) (nomark _)))))
          (pss_one (ps_set (i := 1) nd rfl (.inl rfl) (pv 3))) pss_nil)
        (pss_one (ps_set (i := 2) nd rfl (.inl rfl) (pe_op op_mod (pe_callTy call_int1 (by rfl) mInt boot_int (pa_cons (pe_op op_add (pe_op op_add (pe_op op_mul (pv 2) pe_int) (pv 3)) pe_int) pa_nil)) pe_int)))))
      (pss_one (ps_ret (pe_lst (pa_cons (pv 1) (pa_cons (pv 2) (pa_cons pe_int pa_nil)))))))), ?_⟩
    refine ⟨(by show 2 ≤ sizeLine; decide), fun t ht => ?_⟩
    refine ⟨t, _, rfl, SqT.of upd_same, rfl, _, _, rfl, _, _, rfl, rfl, ?_⟩
    have s1 : Same H (upd H t (.tup [V.int 0, V.int 17])) := fun b o e => by
      rw [upd_ne (ne_of_none e ht)]
      exact e
    generalize hH : upd H t (.tup [V.int 0, V.int 17]) = H1 at s1
    refine ⟨_, rfl, a, rfl, ⟨_, s1.seq hS⟩, for_list (K := K) (a := a) (xs := ns.map V.int) (fun i σ H2 => ∃ (g sd : Int) (v : Option V), σ = [some (.ref a), some (.int g), some (.int sd), v] ∧ H2 = H1 ∧ 0 ≤ sd ∧ sd < 2147483647)
      ⟨0, 17, none, rfl, rfl, by decide, by decide⟩ (fun i σ H2 _ ⟨_, _, _, _, e, _⟩ => by rw [e]; exact s1.seq hS) ?_ ?_⟩
    · rintro i y σ H2 hi ⟨g, sd, v, rfl, rfl, h0, h1⟩
      obtain ⟨z, rfl⟩ : ∃ z, y = V.int z := by
        rw [List.getElem?_map] at hi
        cases e : ns[i]? with
        | none =>
          rw [e] at hi
          cases hi
        | some z =>
          rw [e] at hi
          exact ⟨z, (Option.some.inj hi).symm⟩
      refine ⟨_, rfl, rfl, _, rfl, ?_⟩
      refine ite2 (fun hz => ?_) (fun hz => ?_)
      · refine ⟨_, rfl, _, _, rfl, rfl, ⟨by decide, by decide, by decide⟩, _, _, rfl, rfl, _, rfl, ?_⟩
        refine ite2 (fun _ => ?_) (fun _ => ?_)
        · refine ⟨_, rfl, ?_⟩
          refine ⟨_, rfl, _, _, rfl, rfl, .inl ⟨by omega, by omega⟩, _, rfl, _, _, rfl, rfl, _, _, rfl, rfl, .inl ⟨_, rfl, ?_⟩⟩
          refine ⟨_, _, rfl, rfl, (by show (0 : Int) < 2147483647; decide), ?_⟩
          exact ⟨_, _, _, rfl, rfl, Int.emod_nonneg _ (by decide), Int.emod_lt_of_pos _ (by decide)⟩
        · refine ⟨_, rfl, _, _, rfl, rfl, .inl ⟨by omega, by omega⟩, _, rfl, _, _, rfl, rfl, _, _, rfl, rfl, .inl ⟨_, rfl, ?_⟩⟩
          refine ⟨_, _, rfl, rfl, (by show (0 : Int) < 2147483647; decide), ?_⟩
          exact ⟨_, _, _, rfl, rfl, Int.emod_nonneg _ (by decide), Int.emod_lt_of_pos _ (by decide)⟩
      · refine iteF ?_
        refine ⟨_, rfl, _, _, rfl, rfl, .inl ⟨by omega, by omega⟩, _, rfl, _, _, rfl, rfl, _, _, rfl, rfl, .inl ⟨_, rfl, ?_⟩⟩
        refine ⟨_, _, rfl, rfl, (by show (0 : Int) < 2147483647; decide), ?_⟩
        exact ⟨_, _, _, rfl, rfl, Int.emod_nonneg _ (by decide), Int.emod_lt_of_pos _ (by decide)⟩
    · rintro σ H2 ⟨g, sd, v, rfl, rfl, h0, h1⟩
      refine ⟨_, rfl, _, rfl, (by show 3 ≤ sizeLine; decide), fun p hp => ?_⟩
      refine k p _ (s1.free hp) ⟨g, sd, 0, upd_same, h0, h1, by omega, by omega⟩ fun b o hb => ?_
      rw [upd_ne (ne_of_none (s1 b o hb) hp)]
      exact s1 b o hb
end
end Lw
/-! ## NamA -/
set_option Elab.async false
set_option linter.all false
set_option maxRecDepth 100000
set_option maxHeartbeats 4000000
namespace Sl
open PySem PySem.Spec PyProof.Rows L2 TL
/-! ### names -/
abbrev alpha : Str := "abcdefghijklmnopqrstuvwxyz"
def letB (c : Nat) : Bool := decide (c ∈ alpha.cps.toList)
def nameB (z : Str) : Bool := decide (1 ≤ z.length) && (decide (z.length ≤ 8) && z.cps.toList.all letB)
theorem nameB_of {z : Str} (h1 : 1 ≤ z.length) (h2 : z.length ≤ 8) (h3 : ∀ c ∈ z.cps.toList, letB c = true) : nameB z = true := by
  unfold nameB
  rw [decide_eq_true h1, decide_eq_true h2, List.all_eq_true.mpr h3]
  rfl
theorem nameB_len {z : Str} (h : nameB z = true) : 1 ≤ z.length ∧ z.length ≤ 8 := by
  unfold nameB at h
  simp only [Bool.and_eq_true, decide_eq_true_eq] at h
  exact ⟨h.1, h.2.1⟩
theorem nameB_all {z : Str} (h : nameB z = true) : ∀ c ∈ z.cps.toList, letB c = true := by
  unfold nameB at h
  simp only [Bool.and_eq_true, decide_eq_true_eq] at h
  exact List.all_eq_true.mp h.2.2
/-- the text of these signs -/
def oneS (c : Nat) : Str := ⟨#[c]⟩
theorem joinL_ones : ∀ cs : List Nat, joinL [] ((cs.map oneS).map tl) = cs
  | [] => rfl
  | [_] => rfl
  | x :: z :: r => by
    show [x] ++ ([] ++ joinL [] (((z :: r).map oneS).map tl)) = x :: z :: r
    rw [joinL_ones (z :: r)]
    rfl
theorem join_ones (cs : List Nat) : Txt.join (⟨#[]⟩ : Str) (cs.map oneS) = ⟨cs.toArray⟩ := by
  rw [join_eq]
  refine ext_tl ?_
  rw [tl_join]
  show joinL [] _ = cs.toArray.toList
  rw [joinL_ones]
theorem join_none (cs : List Nat) : Txt.join (Str.ofString "") (cs.map oneS) = ⟨cs.toArray⟩ := Sl.join_ones cs
theorem inV_str {x : Str} {xs : List Str} : inV (.str x) (xs.map V.str) = decide (x ∈ xs) := by
  induction xs with
  | nil => rfl
  | cons y ys ih =>
    show (eqV (.str y) (.str x) || inV (.str x) (ys.map V.str)) = _
    rw [ih]
    show ((y == x) || decide (x ∈ ys)) = decide (x ∈ y :: ys)
    by_cases h : y = x
    · subst h
      simp
    · have h' : (y == x) = false := by simpa using h
      rw [h']
      have h2 : x ≠ y := fun e => h e.symm
      simp [h2]
theorem flat_strs (xs : List Str) : (xs.map V.str).all flatV = true := by
  rw [List.all_map]
  exact List.all_eq_true.mpr fun _ _ => rfl
/-- more than can be found there -/
theorem one_not_in {α : Type} [DecidableEq α] : ∀ (xs ys : List α), xs.Nodup → ys.length < xs.length → ∃ x, x ∈ xs ∧ x ∉ ys
  | [], ys, _, h => absurd h (Nat.not_lt_zero _)
  | x :: xs, ys, hn, h => by
    by_cases hx : x ∈ ys
    · obtain ⟨h1, h2⟩ := List.nodup_cons.mp hn
      have hl : (ys.erase x).length < xs.length := by
        rw [List.length_erase_of_mem hx]
        have := List.length_pos_of_mem hx
        simp only [List.length_cons] at h
        omega
      obtain ⟨z, hz, hny⟩ := one_not_in xs (ys.erase x) h2 hl
      refine ⟨z, List.mem_cons_of_mem _ hz, fun q => hny ?_⟩
      have ne : z ≠ x := fun e => h1 (e ▸ hz)
      exact (List.mem_erase_of_ne ne).mpr q
    · exact ⟨x, List.mem_cons_self, hx⟩
theorem tl_cut1 {z : Str} (h : 1 ≤ z.length) : tl (cutS z (some 1) none) = (tl z).drop 1 := by
  have e1 : HT.sIx z.length 0 (some 1) = 1 := by
    have : HT.sIx z.length 0 (some ((1 : Nat) : Int)) = 1 := by
      rw [HT.sIx_nat]
      omega
    exact this
  have e2 : HT.sIx z.length z.length none = z.length := rfl
  show ((z.cps.toList.drop (HT.sIx z.length 0 (some 1))).take (HT.sIx z.length z.length none - HT.sIx z.length 0 (some 1))).toArray.toList = _
  rw [e1, e2]
  show List.take (z.length - 1) (List.drop 1 (tl z)) = _
  rw [List.take_of_length_le]
  rw [List.length_drop, len_tl]
  omega
theorem tl_app (a b : Str) : tl (a ++ b) = tl a ++ tl b := by
  show (a.cps ++ b.cps).toList = _
  rw [Array.toList_append]
theorem nameB_q {z : Str} (h : nameB z = true) (h7 : z.length ≤ 8) : nameB (("q" : Str) ++ cutS z (some 1) none) = true := by
  have e : tl (("q" : Str) ++ cutS z (some 1) none) = 113 :: (tl z).drop 1 := by
    rw [tl_app, tl_cut1 (nameB_len h).1]
    rfl
  have l : (("q" : Str) ++ cutS z (some 1) none).length = 1 + ((tl z).drop 1).length := by
    rw [len_tl, e, List.length_cons]
    omega
  have lz := len_tl z
  refine nameB_of ?_ ?_ ?_
  · rw [l]
    omega
  · rw [l, List.length_drop]
    have := (nameB_len h).1
    omega
  · intro c hc
    rw [show (("q" : Str) ++ cutS z (some 1) none).cps.toList = 113 :: (tl z).drop 1 from e] at hc
    rcases List.mem_cons.mp hc with h1 | h1
    · subst h1
      decide +kernel
    · exact nameB_all h c (List.mem_of_mem_drop h1)
theorem sum_ones : ∀ cs : List Nat, ((cs.map oneS).map (fun z : Str => z.length)).sum = cs.length
  | [] => rfl
  | c :: r => by
    show (oneS c).length + ((r.map oneS).map (fun z : Str => z.length)).sum = r.length + 1
    rw [sum_ones r]
    show 1 + r.length = r.length + 1
    omega
abbrev rAddS : R2 := fun x y H Q => ∃ i j, x = .str i ∧ y = .str j ∧ i.length + j.length ≤ sizeLine ∧ Q (.str (i ++ j)) H
def zs : List Str := alpha.cps.toList.map fun c => ("z" : Str) ++ oneS c
theorem zs_nodup : zs.Nodup := by decide +kernel
theorem zs_names : zs.all nameB = true := by decide +kernel
theorem zs_len : zs.length = 26 := by decide +kernel
/-- what a drawn name may be -/
def sixW : List Str := ["old", "new", "do", "add", "set", "refuse"]
def drawn (z : Str) : Prop := nameB z = true ∧ (z.length ≤ 3 ∨ z.length = 8 ∨ z ∈ sixW ∨ ∃ r, tl z = 113 :: r)
theorem zs_drawn : ∀ z ∈ zs, drawn z := fun z hz => by
  have h := List.all_eq_true.mp (show (zs.all fun z => nameB z && decide (z.length ≤ 3)) = true by decide +kernel) z hz
  obtain ⟨h1, h2⟩ := Bool.and_eq_true_iff.mp h
  exact ⟨h1, .inl (of_decide_eq_true h2)⟩
theorem drawn_q {z : Str} (h : nameB z = true) (h7 : z.length ≤ 8) : drawn (("q" : Str) ++ cutS z (some 1) none) := by
  refine ⟨nameB_q h h7, .inr (.inr (.inr ⟨(tl z).drop 1, ?_⟩))⟩
  rw [tl_app, tl_cut1 (nameB_len h).1]
  rfl
/-- not drawn: four to seven signs, none of the six, no q ahead -/
theorem not_drawn {z : Str} (h1 : ¬ z.length ≤ 3) (h2 : z.length ≠ 8) (h3 : z ∉ sixW) (h4 : ∀ r, tl z ≠ 113 :: r) : ¬ drawn z := fun ⟨_, h⟩ => by
  rcases h with h | h | h | ⟨r, h⟩
  · exact h1 h
  · exact h2 h
  · exact h3 h
  · exact h4 r h
theorem nobody_not : ¬ drawn "nobody" := not_drawn (by decide +kernel) (by decide +kernel) (by decide +kernel) (fun r e => by
  have : (tl ("nobody" : Str)).head? = some 113 := by rw [e]; rfl
  exact absurd this (by decide +kernel))
theorem late_not : ¬ drawn "late" := not_drawn (by decide +kernel) (by decide +kernel) (by decide +kernel) (fun r e => by
  have : (tl ("late" : Str)).head? = some 113 := by rw [e]; rfl
  exact absurd this (by decide +kernel))
/-! ### draws, read -/
theorem at_in {α : Type} {xs : List α} {j : Int} (h0 : 0 ≤ j) (h1 : j < (xs.length : Int)) : ∃ v, atI xs j = some v ∧ v ∈ xs := by
  have hj : j.toNat < xs.length := by omega
  exact ⟨xs[j.toNat], atI_int h0 (List.getElem?_eq_getElem hj), List.getElem_mem hj⟩
theorem draw_of {σ : L2.St} {H : Hp} {Q : VK} {i : Nat} {m : Int} {n : Nat} {p : Addr} (h : σ[i]? = some (some (.ref p))) (hp : SrcAt H p n) (hn : n ≤ 100000) (h0 : 0 < m) (h1 : m < 2 ^ 200)
    (k : ∀ (j : Int) (H' : Hp), 0 ≤ j → j < m → SrcAt H' p (n + 1) → Keep p H H' → Q (.int j) H') : tCall sp_draw [] E0 (tCons (tVar i) (tCons (tC (.int m)) tNil)) σ H Q :=
  ⟨_, h, p, m, n, rfl, hp, hn, h0, h1, k⟩
theorem same_new {H : Hp} {p : Addr} {o : HO} (hp : H p = none) : Same H (L2.upd H p o) := fun b u e => by
  rw [upd_ne (ne_of_none e hp)]
  exact e
theorem sq_same {K : PySem.W.Frag} {a : Addr} {H H' : Hp} {xs : List V} (h : SqL K H a xs) (k : Same H H') : SqL K H' a xs := by
  rcases h with (h | ⟨o, h⟩) | h
  · exact .inl (.inl (k _ _ h))
  · exact .inl (.inr ⟨o, k _ _ h⟩)
  · exact .inr h
theorem alpha_size : alpha.cps.size = 26 := by decide +kernel
theorem Keep.of_same {p : Addr} {H H' : Hp} (h : Same H H') : Keep p H H' := fun b o _ e => h b o e
theorem asg_of {te : TE} {i : Nat} {u : TS} {D : Ends} {σ : L2.St} {H : Hp} (h : te σ H fun x H1 => u D (σ.set i (some x)) H1) : tSeq (tAsg te (gName i)) u D σ H := h
theorem ifs_of {c : TT} {t u v : TS} {D : Ends} {σ : L2.St} {H : Hp} (h : c σ H fun b H1 => if b = true then t { D with nx := v D } σ H1 else u { D with nx := v D } σ H1) : tSeq (tIfS c t u) v D σ H := h
theorem or_of {A B : TT} {σ : L2.St} {H : Hp} {Q : Bool → Hp → Prop} (h : A σ H fun c H1 => if c = true then Q true H1 else B σ H1 Q) : tOr A B σ H Q := h
theorem test_of {r : R2} {ta tb : TE} {σ : L2.St} {H : Hp} {Q : Bool → Hp → Prop} (h : ta σ H fun x H1 => tb σ H1 fun y H2 => r x y H2 fun x H' => ∃ k, x = .bl k ∧ Q k H') : tTest (tOp r ta tb) σ H Q := h
theorem nx_of {v : TS} {D D' : Ends} {σ : L2.St} {H : Hp} (h : v D σ H) : tNext { D' with nx := v D } σ H := h
theorem yes_of {σ : L2.St} {H : Hp} {Q : Bool → Hp → Prop} (h : Q true H) : tYes σ H Q := h
theorem ite_of {P1 P2 : Prop} {c : Bool} (h1 : c = true → P1) (h2 : c = false → P2) : if c = true then P1 else P2 := by
  cases c with
  | true => exact iteT (h1 rfl)
  | false => exact iteF (h2 rfl)

theorem TyX.same {K : PySem.W.Frag} {H H' : Hp} {v : V} {t : Value} (h : TyX K H v t) (k : Same H H') : TyX K H' v t := by
  cases h with
  | base b =>
    cases b with
    | non => exact .base .non
    | bl y => exact .base (.bl y)
    | int i => exact .base (.int i)
    | str y => exact .base (.str y)
    | flt y => exact .base (.flt y)
    | lst e => exact .base (.lst (k _ _ e))
    | frz e => exact .base (.frz (k _ _ e))
    | tup e => exact .base (.tup (k _ _ e))
    | dK e => exact .base (.dK (k _ _ e))
    | dT e => exact .base (.dT (k _ _ e))
    | ins e cl ha hn htk hm => exact .base (.ins (k _ _ e) cl ha hn htk hm)
  | byt y => exact .byt y
  | set e => exact .set (k _ _ e)
  | kList e c => exact .kList e c
  | kTuple e c => exact .kTuple e c
  | kDict e c => exact .kDict e c
  | fTuple e => exact .fTuple (k _ _ e)
  | fDict e => exact .fDict (k _ _ e)
end Sl
/-! ## NamB -/
set_option Elab.async false
set_option linter.all false
set_option maxRecDepth 100000
set_option maxHeartbeats 8000000
namespace Lw
open PySem PySem.Spec PyProof.Rows L2 Sl
section
variable {P : Program} {w : World} {K : PySem.W.Frag} {mg : Str → Option Value} {base : Heap} {f : Addr} {fd : FuncData}
def sp_name (K : PySem.W.Frag) : Sp := fun vs H Q _ => ∃ (p q : Addr) (xs : List Str) (n : Nat), vs = [.ref p, .ref q] ∧ SrcAt H p n ∧ n ≤ 99000 ∧ SqL K H q (xs.map V.str) ∧ q ≠ p ∧ xs.length ≤ 25 ∧
  ∀ (z : Str) (H' : Hp), drawn z → z ∉ xs → SrcAt H' p (n + 10) → Keep p H H' → Q (.str z) H'
abbrev nameN : List Str := ["_law_source_here", "_law_taken", "_law_size", "_law_name_here", "_law_k", "_law_sign", "_law_one"]
theorem ok_name (F : FnP K "_law_name" s_l_name [] f fd) (D : Cal P w K mg base 1 "_law_draw" [] sp_draw) (mR : mg "range" = none) : FnOk P w K mg base CX0 2 f fd ["_law_source_here", "_law_taken"] (sp_name K) := by
  refine F.ok sc_l_name (fun vs H Q E h => ?_) (fun cdv A outer s H vs Q E hr h => ?_)
  · obtain ⟨p, q, xs, n, rfl, _⟩ := h
    rfl
  · obtain ⟨p, q, xs, n, rfl, hp, hn, hq, ne, hx, k⟩ := h
    have nd := sc_l_name.nd
    refine ⟨_, PSs.nox (pss_cons (ps_set (i := 2) nd rfl (.inl rfl) (pe_ix ix_list (pe_lst (pa_cons pe_int (pa_cons pe_int (pa_cons pe_int (pa_cons pe_int (pa_cons pe_int (pa_cons pe_int (pa_cons pe_int (pa_cons pe_int (pa_cons pe_int (pa_cons pe_int (pa_cons pe_int (pa_cons pe_int (pa_cons pe_int pa_nil))))))))))))))
        (pe_cal D hr (pa_cons (pv 0) (pa_cons pe_int pa_nil))) (fun _ _ => rfl)))
      (pss_cons (ps_set (i := 3) nd rfl (.inl rfl) (pe_join pe_str (pe_lc (own := [("_law_k", 4)]) (g := gName 4) (tt := tYes) rfl nd (pi_range1 (by rfl) mR (pa_cons (pv 2) pa_nil)) (blkOk_by (N := nameN) (sc := defScope s_l_name) (by decide +kernel)) (fun _ _ _ _ _ => pg_name (i := 4) nd rfl (Or.inl rfl)) (fun _ _ _ _ _ => pts_nil)
          (fun _ _ _ _ _ => pe_ix (r := rIxS) ix_str pe_str (pe_cal D hr (pa_cons (pv 0) (pa_cons pe_int pa_nil))) (fun _ _ => rfl)))))
      (pss_cons (ps_if (pt_chain op_lt op_lt pe_int (pv 2) pe_int)
          (pss_one (ps_set (i := 3) nd rfl (.inl rfl) (pe_ix ix_list (pe_lst (pa_cons pe_str (pa_cons pe_str (pa_cons pe_str (pa_cons pe_str (pa_cons pe_str (pa_cons pe_str (pa_cons (pe_op (r := rAddS) op_add_str pe_str (pe_slice sl_str (pv 3) (po_some pe_int) po_none)) pa_nil))))))))
            (pe_cal D hr (pa_cons (pv 0) (pa_cons pe_int pa_nil))) (fun _ _ => rfl)))) pss_nil)
      (pss_cons (ps_if (pt_cmpR (r := rIn K true) op_notIn_seq (pv 3) (pv 1) (by rfl)) (pss_one (ps_ret (pv 3))) pss_nil)
      (pss_one (ps_ret (pe_ix ix_list (pe_lc (own := [("_law_one", 6)]) (g := gName 6) rfl nd (pi_list (pe_lc (own := [("_law_sign", 5)]) (g := gName 5) (tt := tYes) rfl nd (pi_str pe_str) (blkOk_by (N := nameN) (sc := defScope s_l_name) (by decide +kernel)) (fun _ _ _ _ _ => pg_name (i := 5) nd rfl (Or.inl rfl)) (fun _ _ _ _ _ => pts_nil)
            (fun _ _ _ _ _ => pe_op (r := rAddS) op_add_str pe_str (pv 5)))) (blkOk_by (N := nameN) (sc := defScope s_l_name) (by decide +kernel)) (fun _ _ _ _ _ => pg_name (i := 6) nd rfl (Or.inl rfl)) (fun _ _ _ _ _ => pts_one (pt_cmpR (r := rIn K true) op_notIn_seq (pv 6) (pv 1) (by rfl)))
            (fun _ _ _ _ _ => (pv 6))) pe_int (fun _ _ => rfl)))))))), ?_⟩
    show tSeq (tAsg (tOp (rIxL K) (tLst (tCons (tC (.int 8)) _)) (tCall sp_draw [] E0 (tCons (tVar 0) (tCons (tC (.int 13)) tNil)))) (gName 2)) _ _ [some (V.ref p), some (V.ref q), none, none, none, none, none] H
    refine asg_of ⟨(by show 13 ≤ sizeLine; decide), fun a1 ha1 => ?_⟩
    obtain ⟨po, hpo⟩ := hp.there
    have na1 : a1 ≠ p := fun e => by rw [e, hpo] at ha1; cases ha1
    refine draw_of rfl (hp.new ha1) (by omega) (by decide) (by decide +kernel) fun j1 H1 j10 j11 hp1 k1 => ?_
    obtain ⟨v1, hv1, mv1⟩ := at_in (xs := [V.int 8, .int 4, .int 5, .int 6, .int 7, .int 1, .int 2, .int 3, .int 1, .int 2, .int 3, .int 1, .int 2]) j10 j11
    refine ⟨a1, _, j1, v1, rfl, rfl, SqL.of (k1 _ _ na1 upd_same), hv1, ?_⟩
    have hi : ∃ m : Nat, v1 = .int (m : Int) ∧ 1 ≤ m ∧ m ≤ 8 := by
      simp only [List.mem_cons, List.not_mem_nil, or_false] at mv1
      rcases mv1 with h | h | h | h | h | h | h | h | h | h | h | h | h <;> subst h
      · exact ⟨8, rfl, by decide, by decide⟩
      · exact ⟨4, rfl, by decide, by decide⟩
      · exact ⟨5, rfl, by decide, by decide⟩
      · exact ⟨6, rfl, by decide, by decide⟩
      · exact ⟨7, rfl, by decide, by decide⟩
      · exact ⟨1, rfl, by decide, by decide⟩
      · exact ⟨2, rfl, by decide, by decide⟩
      · exact ⟨3, rfl, by decide, by decide⟩
      · exact ⟨1, rfl, by decide, by decide⟩
      · exact ⟨2, rfl, by decide, by decide⟩
      · exact ⟨3, rfl, by decide, by decide⟩
      · exact ⟨1, rfl, by decide, by decide⟩
      · exact ⟨2, rfl, by decide, by decide⟩
    obtain ⟨m, rfl, m1, m8⟩ := hi
    have kk1 : Keep p H H1 := (Keep.new ha1).trans k1
    clear k1 mv1 hv1
    -- the letters
    show tSeq (tAsg (tM1 _ (tC (.str _)) (tLc (iRng1 (tCons (tVar 2) tNil)) (gName 4) tYes (tOp rIxS (tC (.str alpha)) (tCall sp_draw [] E0 (tCons (tVar 0) (tCons (tC (.int 26)) tNil)))) [4])) (gName 3)) _ _ [some (V.ref p), some (V.ref q), some (V.int (m : Int)), none, none, none, none] H1
    refine asg_of ⟨⟨_, rfl⟩, _, rfl, (m : Int), rfl, by omega, by omega, fun D hD => ?_⟩
    refine lc_range (lo := 0) (n := m) (fun i H' => SrcAt H' p (n + 1 + i) ∧ Keep p H1 H' ∧ ∃ cs : List Nat, cs.length = i ∧ (∀ c ∈ cs, letB c = true) ∧ H' D = some (.lst ((cs.map oneS).map V.str))) ⟨hp1.new hD, Keep.new hD, [], rfl, fun _ h => absurd h List.not_mem_nil, upd_same⟩ ?_ ?_
    · intro i H' hi ⟨hp2, kp2, cs, lc, hc, hd⟩
      refine ⟨rfl, yes_of (iteT ?_)⟩
      refine draw_of rfl hp2 (by omega) (by decide) (by decide +kernel) fun j2 H3 j20 j21 hp3 k3 => ?_
      obtain ⟨c, hv2, mc⟩ := at_in (xs := alpha.cps.toList) j20 j21
      have nD : D ≠ p := fun e => by
        obtain ⟨po1, hpo1⟩ := hp1.there
        rw [e, hpo1] at hD
        cases hD
      refine ⟨_, j2, c, rfl, rfl, (by show 26 ≤ sizeLine; decide), hv2, _, k3 _ _ nD hd, ?_, ?_⟩
      · rw [List.length_map, List.length_map, lc, sizeLine_eq]
        omega
      · refine ⟨?_, ?_, cs ++ [c], ?_, ?_, ?_⟩
        · obtain ⟨g, sd, cc, e, z⟩ := hp3
          exact ⟨g, sd, cc, by rw [upd_ne nD.symm]; exact e, z⟩
        · intro b o nb e
          have nbD : b ≠ D := fun e2 => by rw [e2, hD] at e; cases e
          rw [upd_ne nbD]
          exact k3 _ _ nb (kp2 _ _ nb e)
        · rw [List.length_append, lc]
          rfl
        · intro d hd2
          rcases List.mem_append.mp hd2 with h1 | h1
          · exact hc d h1
          · rw [List.mem_singleton.mp h1]
            exact decide_eq_true mc
        · rw [upd_same, List.map_append, List.map_append]
          rfl
    · intro H2 ⟨hp2, kp2, cs, lc, hc, hd⟩
      refine ⟨_, D, cs.map oneS, rfl, rfl, .inl (SqL.of hd), ?_, ?_⟩
      · rw [sum_ones, lc]
        show m + (cs.map oneS).length * 0 ≤ 16777216
        omega
      rw [join_none]
      have nz : nameB ⟨cs.toArray⟩ = true := nameB_of (by show 1 ≤ cs.toArray.size; rw [List.size_toArray, lc]; exact m1) (by show cs.toArray.size ≤ 8; rw [List.size_toArray, lc]; exact m8) (by simpa using hc)
      have lz : (⟨cs.toArray⟩ : Str).length = m := by show cs.toArray.size = m; rw [List.size_toArray, lc]
      generalize (⟨cs.toArray⟩ : Str) = z at nz lz
      have kk2 := kk1.trans kp2
      clear hd hc lc kp2
      show tSeq (tIfS (tTest (tChain _ _ (tC (.int 3)) (tVar 2) (tC (.int 8)))) _ tNext) _ _ [some (V.ref p), some (V.ref q), some (V.int (m : Int)), some (V.str z), none, none, none] H2
      have hp9 := hp2.mono (show n + 1 + m ≤ n + 9 by omega)
      have rest : ∀ (z' : Str) (H3 : Hp), drawn z' → SrcAt H3 p (n + 10) → Keep p H H3 → tSeq (tIfS (tTest (tOp (rIn K true) (tVar 3) (tVar 1))) (tRet (tVar 3)) tNext)
          (tRet (tOp (rIxL K) (tLc (iList K (tLc (iStr (tC (.str alpha))) (gName 5) tYes (tOp rAddS (tC (.str "z")) (tVar 5)) [5])) (gName 6) (tTest (tOp (rIn K true) (tVar 6) (tVar 1))) (tVar 6) [6]) (tC (.int 0)))) { nx := fun _ H' => Q .non H', rt := Q } [some (V.ref p), some (V.ref q), some (V.int (m : Int)), some (V.str z'), none, none, none] H3 := by
        intro z' H3 nz' hp3 kk3
        have hq3 := kk3.seq ne hq
        refine ifs_of (test_of ⟨_, rfl, _, rfl, q, _, rfl, .inl hq3, rfl, flat_strs xs, _, rfl, ite_of (fun c => ?_) (fun _ => ?_)⟩)
        · rw [inV_str] at c
          refine ⟨_, rfl, k z' H3 nz' (fun hz => ?_) hp3 kk3⟩
          rw [decide_eq_true hz] at c
          cases c
        · refine ⟨alpha, rfl, fun D1 hD1 => ?_⟩
          refine lc_it walk_str (fun i H' => Same H3 H' ∧ H' D1 = some (.lst (((alpha.cps.toList.take i).map fun c => ("z" : Str) ++ oneS c).map V.str))) ⟨same_new hD1, upd_same⟩ (fun _ _ _ _ => trivial) ?_ ?_
          · intro i x Ha Hb hi ⟨s1, hd1⟩ ⟨e, c, hc, ex⟩
            subst e ex
            refine ⟨rfl, yes_of (iteT ?_)⟩
            refine ⟨_, rfl, ("z" : Str), oneS c, rfl, rfl, (by show 1 + 1 ≤ sizeLine; decide), _, hd1, ?_, ?_, ?_⟩
            · have hi' : i < 26 := by rw [← alpha_size]; exact hi
              rw [List.length_map, List.length_map, List.length_take, sizeLine_eq]
              omega
            · intro b o e
              rw [upd_ne (ne_of_none e hD1)]
              exact s1 _ _ e
            · have hc' : alpha.cps.toList[i]? = some c := by
                rw [Array.getElem?_toList]
                exact hc
              rw [upd_same, List.take_succ, hc', List.map_append, List.map_append]
              rfl
          · intro H4 ⟨s4, hd4⟩
            have e26 : (alpha.cps.toList.take alpha.cps.size).map (fun c => ("z" : Str) ++ oneS c) = zs := by decide +kernel
            rw [e26] at hd4
            refine ⟨D1, rfl, ⟨_, SqL.of hd4⟩, fun D2 hD2 => ?_⟩
            have hq4 : SqL K H4 q (xs.map V.str) := sq_same hq3 s4
            refine lc_list (xs := zs.map V.str) (fun i H' => Same H4 H' ∧ H' D2 = some (.lst (((zs.take i).filter fun z => decide (z ∉ xs)).map V.str))) ⟨same_new hD2, upd_same⟩ (fun i H' _ ⟨s5, _⟩ => SqL.of (s5 _ _ hd4)) ?_ ?_
            · intro i y H' hy ⟨s5, hd5⟩
              rw [List.getElem?_map] at hy
              cases ez : zs[i]? with
              | none => rw [ez] at hy; cases hy
              | some z1 =>
                rw [ez] at hy
                cases Option.some.inj hy
                refine ⟨rfl, test_of ⟨_, rfl, _, rfl, q, _, rfl, .inl (sq_same hq4 s5), rfl, flat_strs xs, _, rfl, ite_of (fun c => ?_) (fun c => ?_)⟩⟩
                · rw [inV_str] at c
                  have c' : z1 ∉ xs := fun hz => by
                    rw [decide_eq_true hz] at c
                    cases c
                  refine ⟨_, rfl, _, hd5, ?_, ?_, ?_⟩
                  · rw [List.length_map, sizeLine_eq]
                    have := List.length_filter_le (fun z => decide (z ∉ xs)) (zs.take i)
                    rw [List.length_take, zs_len] at this
                    omega
                  · intro b o e
                    rw [upd_ne (ne_of_none e hD2)]
                    exact s5 _ _ e
                  · rw [upd_same, List.take_succ, ez, List.filter_append, List.map_append]
                    show _ = some (HO.lst (_ ++ (([z1].filter fun z => decide (z ∉ xs)).map V.str)))
                    rw [List.filter_cons_of_pos (by simpa using c')]
                    rfl
                · rw [inV_str] at c
                  have c' : z1 ∈ xs := by
                    by_cases hz : z1 ∈ xs
                    · exact hz
                    · rw [decide_eq_false hz] at c
                      cases c
                  refine ⟨s5, ?_⟩
                  rw [List.take_succ, ez, List.filter_append]
                  show _ = some (HO.lst ((_ ++ ([z1].filter fun z => decide (z ∉ xs))).map V.str))
                  rw [List.filter_cons_of_neg (by simpa using c')]
                  rw [List.filter_nil, List.append_nil]
                  exact hd5
            · intro H5 ⟨s5, hd5⟩
              have e26' : zs.take (zs.map V.str).length = zs := by
                rw [List.length_map]
                exact List.take_length
              rw [e26'] at hd5
              obtain ⟨z1, hz1, hx1⟩ := one_not_in zs xs zs_nodup (by rw [zs_len]; omega)
              have hm : z1 ∈ zs.filter fun z => decide (z ∉ xs) := List.mem_filter.mpr ⟨hz1, by simpa using hx1⟩
              have hl : (0 : Int) < (((zs.filter fun z => decide (z ∉ xs)).map V.str).length : Int) := by
                have := List.length_pos_of_mem hm
                rw [List.length_map]
                omega
              obtain ⟨v, hv, mv⟩ := at_in (Int.le_refl 0) hl
              obtain ⟨z2, hz2, rfl⟩ := List.mem_map.mp mv
              obtain ⟨hz3, hz4⟩ := List.mem_filter.mp hz2
              refine ⟨D2, _, 0, _, rfl, rfl, SqL.of hd5, hv, k z2 H5 (zs_drawn z2 hz3) (by simpa using hz4) ?_ ?_⟩
              · obtain ⟨g, sd, cc, e, z⟩ := hp3
                exact ⟨g, sd, cc, s5 _ _ (s4 _ _ e), z⟩
              · exact kk3.trans (Keep.of_same (s4.trans s5))
      refine ifs_of ⟨_, rfl, 3, (m : Int), rfl, rfl, decide ((3 : Int) < m), rfl, ite_of (fun h3 => ⟨(m : Int), 8, rfl, rfl, _, rfl, ite_of (fun h8 => ?_) (fun h8 => ?_)⟩) (fun h3 => ⟨false, rfl, iteF ?_⟩)⟩
      · refine ⟨_, rfl, 1, rfl, z, rfl, (by rw [lz, sizeLine_eq]; omega), _, _, rfl, rfl, ?_, (by show 7 ≤ sizeLine; decide), fun a3 ha3 => ?_⟩
        · have := cutS_length z (some 1) none
          rw [sizeLine_eq]
          show 1 + _ ≤ _
          omega
        · obtain ⟨po2, hpo2⟩ := hp2.there
          have na3 : a3 ≠ p := fun e => by rw [e, hpo2] at ha3; cases ha3
          refine draw_of rfl (hp9.new ha3) (by omega) (by decide) (by decide +kernel) fun j3 H3 j30 j31 hp3 k3 => ?_
          obtain ⟨v3, hv3, mv3⟩ := at_in (xs := [V.str "old", .str "new", .str "do", .str "add", .str "set", .str "refuse", .str (("q" : Str) ++ cutS z (some 1) none)]) j30 j31
          refine ⟨a3, _, j3, v3, rfl, rfl, SqL.of (k3 _ _ na3 upd_same), hv3, ?_⟩
          have hz : ∃ z' : Str, v3 = .str z' ∧ drawn z' := by
            simp only [List.mem_cons, List.not_mem_nil, or_false] at mv3
            rcases mv3 with h | h | h | h | h | h | h <;> subst h
            · exact ⟨_, rfl, by decide +kernel, .inr (.inr (.inl (by decide +kernel)))⟩
            · exact ⟨_, rfl, by decide +kernel, .inr (.inr (.inl (by decide +kernel)))⟩
            · exact ⟨_, rfl, by decide +kernel, .inr (.inr (.inl (by decide +kernel)))⟩
            · exact ⟨_, rfl, by decide +kernel, .inr (.inr (.inl (by decide +kernel)))⟩
            · exact ⟨_, rfl, by decide +kernel, .inr (.inr (.inl (by decide +kernel)))⟩
            · exact ⟨_, rfl, by decide +kernel, .inr (.inr (.inl (by decide +kernel)))⟩
            · exact ⟨_, rfl, drawn_q nz (by omega)⟩
          obtain ⟨z', rfl, nz'⟩ := hz
          exact rest z' H3 nz' hp3 (kk2.trans ((Keep.new ha3).trans k3))
      · have := of_decide_eq_false h8
        exact rest z H2 ⟨nz, .inr (.inl (by omega))⟩ (hp9.mono (by omega)) kk2
      · have := of_decide_eq_false h3
        exact rest z H2 ⟨nz, .inl (by omega)⟩ (hp9.mono (by omega)) kk2
end
end Lw
/-! ## NamC -/
set_option Elab.async false
set_option linter.all false
set_option maxRecDepth 100000
set_option maxHeartbeats 8000000
namespace Lw
open PySem PySem.Spec PyProof.Rows L2 Sl
section
variable {P : Program} {w : World} {K : PySem.W.Frag} {mg : Str → Option Value} {base : Heap} {f : Addr} {fd : FuncData}
def sp_names (K : PySem.W.Frag) : Sp := fun vs H Q _ => ∃ (p : Addr) (m n : Nat), vs = [.ref p, .int (m : Int)] ∧ SrcAt H p n ∧ n ≤ 98000 ∧ m ≤ 20 ∧
  ∀ (q : Addr) (xs : List Str) (H' : Hp), xs.length = m → xs.Nodup → (∀ z ∈ xs, drawn z) → H q = none → H' q = some (.lst (xs.map V.str)) → SrcAt H' p (n + 10 * m) → Keep p H H' → Q (.ref q) H'
theorem ok_names (F : FnP K "_law_names" s_l_names [] f fd) (D : Cal P w K mg base 2 "_law_name" [] (sp_name K)) (mR : mg "range" = none) : FnOk P w K mg base CX0 3 f fd ["_law_source_here", "_law_many"] (sp_names K) := by
  refine F.ok sc_l_names (fun vs H Q E h => ?_) (fun cdv A outer s H vs Q E hr h => ?_)
  · obtain ⟨p, m, n, rfl, _⟩ := h
    rfl
  · obtain ⟨p, m, n, rfl, hp, hn, hm, k⟩ := h
    have nd := sc_l_names.nd
    refine ⟨_, PSs.nox (pss_cons (ps_set (i := 2) nd rfl (.inl rfl) (pe_lst pa_nil))
      (pss_cons (ps_for PassesOwn.never rfl (pi_range1 (by rfl) mR (pa_cons (pv 1) pa_nil)) (pg_name (i := 3) nd rfl (Or.inl rfl))
          (pss_one (ps_expr (pe_bm PySem.F.plainAttrs_list PySem.F.slot_list_append PySem.F.type_list_append mt_append (pv 2) (pa_cons (pe_cal D hr (pa_cons (pv 0) (pa_cons (pv 2) pa_nil))) pa_nil)))))
      (pss_one (ps_ret (pv 2))))), ?_⟩
    show tSeq (tAsg (tLst tNil) (gName 2)) _ _ [some (V.ref p), some (V.int (m : Int)), none, none] H
    refine asg_of ⟨Nat.zero_le _, fun q hq => ?_⟩
    obtain ⟨po, hpo⟩ := hp.there
    have nq : q ≠ p := fun e => by rw [e, hpo] at hq; cases hq
    show tSeq (tFor (iRng1 (tCons (tVar 1) tNil)) (gName 3) _) _ _ [some (V.ref p), some (V.int (m : Int)), some (V.ref q), none] _
    refine ⟨_, rfl, (m : Int), rfl, by omega, by omega, ?_⟩
    refine for_range (lo := 0) (n := m) (fun i σ H' => ∃ (y : Option V) (xs : List Str), σ = [some (V.ref p), some (V.int (m : Int)), some (V.ref q), y] ∧ xs.length = i ∧ xs.Nodup ∧ (∀ z ∈ xs, drawn z) ∧ H' q = some (.lst (xs.map V.str)) ∧ SrcAt H' p (n + 10 * i) ∧ Keep p H H')
      ⟨none, [], rfl, rfl, List.nodup_nil, fun _ h => absurd h List.not_mem_nil, upd_same, hp.new hq, Keep.new hq⟩ ?_ ?_
    · intro i σ H1 hi ⟨y, xs, e, lx, ndx, nx, hq1, hp1, k1⟩
      subst e
      refine ⟨_, rfl, .inl ⟨rfl, _, SqL.of hq1⟩, ?_⟩
      refine ⟨_, rfl, _, rfl, p, q, xs, n + 10 * i, rfl, hp1, by omega, SqL.of hq1, nq, by omega, fun z H2 nz hz hp2 k2 => ?_⟩
      refine ⟨q, _, _, rfl, rfl, k2 _ _ nq hq1, ?_, ?_⟩
      · rw [List.length_map, sizeLine_eq]
        omega
      · refine ⟨_, xs ++ [z], rfl, ?_, ?_, ?_, ?_, ?_, ?_⟩
        · rw [List.length_append, lx]
          rfl
        · refine List.nodup_append.mpr ⟨ndx, by simp, ?_⟩
          intro a ha b hb
          rw [List.mem_singleton.mp hb]
          exact fun e => hz (e ▸ ha)
        · intro a ha
          rcases List.mem_append.mp ha with h1 | h1
          · exact nx a h1
          · rw [List.mem_singleton.mp h1]
            exact nz
        · rw [upd_same, List.map_append]
          rfl
        · obtain ⟨g, sd, cc, e, z1, z2, z3, z4⟩ := hp2
          exact ⟨g, sd, cc, by rw [upd_ne nq.symm]; exact e, z1, z2, z3, by omega⟩
        · intro b o nb e
          have nbq : b ≠ q := fun e2 => by rw [e2, hq] at e; cases e
          rw [upd_ne nbq]
          exact k2 _ _ nb (k1 _ _ nb e)
    · intro σ H1 ⟨y, xs, e, lx, ndx, nx, hq1, hp1, k1⟩
      subst e
      exact ⟨_, rfl, k q xs H1 lx ndx nx hq hq1 hp1 k1⟩
end
end Lw
/-! ## SlMerge -/
set_option Elab.async false
set_option linter.all false
set_option maxRecDepth 100000
set_option maxHeartbeats 4000000
/-! {**a, **b} -/
namespace Sl
open PySem PySem.Spec PyProof.Rows L2
section
variable {prog : Program} {w : World} {κ : Type} [DecidableEq κ] {knd : KeyKind prog w κ} {A : Around} {E : Value → Shared → Prop} {s : Shared}
theorem dictPut_pairs {d : Addr} {kvs : List (κ × Value)} {k : κ} {key v : Value} {Q : Unit → Shared → Prop} (hkey : knd.is k key = true) (hm : s.heap.DictOf knd d kvs)
    (hQ : ∀ h', h'.DictOf knd d (stored kvs k v) → Heap.SameBut d s.heap h' → Q () { s with heap := h' }) (hsz : kvs.length ≤ sizeLine) : wpAny (model prog w) A (dictPut d (knd.hash k) key v) Q E s := by
  obtain ⟨o, es, ep, ho, hc, hd, hk, hp, hn⟩ := hm
  have hes : es.size ≤ sizeLine := by
    have e1 := hp.length
    have e2 : es.toList.length = es.size := by simp
    omega
  unfold dictPut
  refine wpAny_bind (wpAny_dictFind_of hkey ho hd hk ?_)
  have hidx : (es.findIdx? fun e => knd.is k e.key) = kvs.findIdx? fun kv => decide (kv.1 = k) := by
    rw [← hp.findIdx k]; obtain ⟨l⟩ := es; simp
  cases hi : es.findIdx? fun e => knd.is k e.key with
  | some i =>
    refine wpAny_updateDict ho hd (hQ _ ⟨_, _, ep, Heap.get?_update_self _ ho (Obj.isFreed_of_dict (Obj.data_mapDict hd _)), hc.mapDict _, Obj.data_mapDict hd _, hk.modify _ _, ?_, ?_⟩ (Heap.SameBut.update ..))
    · rw [stored, if_pos (any_of_findIdx_some (hidx ▸ hi))]
      have hl : (es.toList.findIdx? fun e => knd.is k e.key) = some i := by rw [← hi]; obtain ⟨l⟩ := es; simp
      have := hp.modify hn hl v
      obtain ⟨l⟩ := es
      simpa using this
    · rw [stored, if_pos (any_of_findIdx_some (hidx ▸ hi)), keys_map_store]; exact hn
  | none =>
    have hnot : k ∉ kvs.map (·.1) := not_mem_of_findIdx_none (hidx ▸ hi)
    have hany : ¬ (kvs.any fun kv => decide (kv.1 = k)) = true := by
      rw [List.any_eq_true]; rintro ⟨kv, hkv, he⟩
      exact hnot (List.mem_map.mpr ⟨kv, hkv, of_decide_eq_true he⟩)
    refine wpAny_updateDictKeys (hz := hes) ho hd (hQ _ ⟨_, _, ep + 1, Heap.get?_update_self _ ho (Obj.isFreed_of_dict (Obj.data_mapDictKeys hd _)),
      hc.mapDictKeys _, Obj.data_mapDictKeys hd _, hk.push hkey _, ?_, ?_⟩ (Heap.SameBut.update ..))
    · rw [stored, if_neg hany]
      have := hp.append hkey (knd.hash k) v
      obtain ⟨l⟩ := es
      simpa using this
    · rw [stored, if_neg hany, List.map_append, List.nodup_append]
      refine ⟨hn, by simp, ?_⟩
      intro a ha b hb
      simp only [List.map_cons, List.map_nil, List.mem_singleton] at hb
      subst hb
      exact fun e => hnot (e ▸ ha)
theorem mergeMapping_pairs {d o : Addr} {kvs more : List (κ × Value)} {Q : Unit → Shared → Prop} (hnr : ∀ k a, knd.is k (.ref a) = false) (hdo : d ≠ o) (hoS : (o == sysModules) = false) (hd : s.heap.DictOf knd d kvs) (ho : s.heap.DictOf knd o more)
    (hQ : ∀ h', h'.DictOf knd d (merged kvs more) → h'.DictOf knd o more → Heap.SameBut d s.heap h' → Q () { s with heap := h' }) (hsz : kvs.length + more.length ≤ sizeLine) :
    wpAny (model prog w) A (mergeMapping d (.ref o) false) Q E s := by
  obtain ⟨od, esd, epd, hod, hcd, hdd, hkd, hpd, hnd⟩ := id hd
  obtain ⟨oo, eso, epo, hoo, hco, hdo', hko, hpo, hno⟩ := id ho
  have hT : s.TypeIs (.ref o) "dict" := ⟨oo, hoo, hco.1⟩
  have hlen : more.length = eso.size := by rw [← hpo.length]; simp
  unfold mergeMapping
  refine wpAny_bind (wpAny_isInstance hT (b := true) (by rw [isSubtype_type]; kernel_rfl) ?_)
  rw [if_pos rfl]
  refine wpAny_bind (wpAny_specialOf hT F.slot_dict_iter.lookup ?_)
  refine wpAny_bind (wpAny_pure ?_)
  rw [show ((some (Value.builtin "dict.__iter__")) == some (Value.builtin "dict.__iter__")) = true by decide +kernel]
  dsimp only
  rw [if_neg (by rw [hoS]; exact Bool.false_ne_true)]
  refine wpAny_bind (wpAny_dictEntries hod hdd ?_)
  have loop : wpAny (model prog w) A (do
      let l ← dictEntries o
      let size : Nat := l.size
      let epoch ← dictEpoch o
      forIn (List.range size) PUnit.unit fun i (_ : PUnit) => (do
          let l' ← dictEntries o
          match l'[i]? with
            | some e => do
              holding [e.key, e.val] (dictPut d e.hash e.key e.val)
              let ep' ← dictEpoch o
              if (ep' != epoch) = true then do
                  (unsupported "dict.changed-during-merge" : Sem PUnit)
                  pure (ForInStep.yield PUnit.unit)
                else pure (ForInStep.yield PUnit.unit)
            | _ => do
              (unsupported "dict.changed-during-merge" : Sem PUnit)
              pure (ForInStep.yield PUnit.unit) : Sem (ForInStep PUnit))
      pure ()) Q E s := by
    refine wpAny_bind (wpAny_dictEntries hoo hdo' ?_)
    refine wpAny_bind (wpAny_dictEpoch hoo hdo' ?_)
    refine wpAny_bind ?_
    rw [List.range_eq_range']
    refine wpAny_forIn_list _
      (fun rest _ s' => ∃ h' i, s' = { s with heap := h' } ∧ rest = List.range' i (eso.size - i) ∧ i ≤ eso.size ∧ h'.DictOf knd d (merged kvs (more.take i)) ∧ h'.get? o = some oo ∧ Heap.SameBut d s.heap h')
      _ ?_ ?_ _ _ ⟨s.heap, 0, rfl, by simp, Nat.zero_le _, by simpa [merged] using hd, hoo, Heap.SameBut.refl _ _⟩
    · rintro x rest b s' ⟨h', i, rfl, hr, hi, hd', hoo', hs'⟩
      have hlt : i < eso.size := by
        rcases Nat.lt_or_ge i eso.size with h | h
        · exact h
        · rw [Nat.sub_eq_zero_of_le h] at hr; simp at hr
      obtain ⟨rfl, hrest⟩ : x = i ∧ rest = List.range' (i + 1) (eso.size - (i + 1)) := by
        have e : eso.size - i = (eso.size - (i + 1)) + 1 := by omega
        rw [e, List.range'_succ] at hr
        injection hr with h1 h2
        exact ⟨h1, h2⟩
      refine wpAny_bind (wpAny_dictEntries hoo' hdo' ?_)
      rw [Array.getElem?_eq_getElem hlt]
      obtain ⟨kv, hkv⟩ : ∃ kv, more[x]? = some kv := ⟨more[x]'(by rw [hlen]; exact hlt), List.getElem?_eq_getElem _⟩
      obtain ⟨k, v⟩ := kv
      obtain ⟨hkey, hval⟩ := hpo.get? (e := eso[x]) (by simp [hlt]) hkv
      obtain ⟨k', hkey', hhash⟩ := hko eso[x] (Array.getElem_mem hlt)
      obtain rfl : k' = k := knd.inj _ _ _ hkey' hkey
      show wpAny _ _ (holding [eso[x].key, eso[x].val] (dictPut d eso[x].hash eso[x].key eso[x].val) >>= _) _ _ _
      rw [hhash, hval]
      have hmx : (merged kvs (more.take x)).length ≤ sizeLine := by
        have e1 := merged_length_le kvs (more.take x)
        have e2 : (more.take x).length ≤ more.length := by rw [List.length_take]; omega
        omega
      refine wpAny_bind (wpAny_holding (dictPut_pairs (hsz := hmx) hkey hd' fun h'' hd'' hs'' => ?_))
      have hoo'' : h''.get? o = some oo := (hs''.2 o (Ne.symm hdo)).trans hoo'
      refine wpAny_bind (wpAny_dictEpoch hoo'' hdo' ?_)
      rw [if_neg (by simp)]
      exact wpAny_pure ⟨h'', x + 1, rfl, hrest, hlt, by rw [merged_take_succ kvs more x (k', v) hkv]; exact hd'', hoo'', hs'.trans hs''⟩
    · rintro b s' ⟨h', i, rfl, hr, hi, hd', hoo', hs'⟩
      have hin : i = eso.size := by
        rcases Nat.lt_or_ge i eso.size with h | h
        · have e : eso.size - i = (eso.size - (i + 1)) + 1 := by omega
          rw [e, List.range'_succ] at hr; exact nomatch hr
        · exact Nat.le_antisymm hi h
      refine wpAny_pure (hQ h' ?_ ⟨oo, eso, epo, hoo', hco, hdo', hko, hpo, hno⟩ hs')
      rw [hin, ← hlen, List.take_length] at hd'; exact hd'
  split
  · refine wpAny_bind (wpAny_dictEntries hoo hdo' ?_)
    refine wpAny_bind (MeetsSeq2.wpAny_forIn_array _ (fun rest _ s' => s' = s ∧ ∀ e ∈ rest, e ∈ eso) _ ?_ ?_ _ _ ⟨rfl, fun e he => by simpa using he⟩)
    · rintro e rest b s' ⟨rfl, hm⟩
      obtain ⟨k', hkey', _⟩ := hko e (hm e List.mem_cons_self)
      cases hk : e.key with
      | ref a =>
        rw [hk, hnr] at hkey'
        cases hkey'
      | _ => exact wpAny_pure ⟨rfl, fun e he => hm e (List.mem_cons_of_mem _ he)⟩
    · rintro b s' ⟨rfl, _⟩
      exact loop
  · exact loop
end
theorem mix_noref (prog : Program) (w : World) (k : Key) (a : Addr) : (mixKind prog w).is k (.ref a) = false := by
  cases k <;> rfl
def tTwo (t1 t2 : TE) : TE := fun σ H Q => ∀ p, H p = none → t1 σ (upd H p (.dK [])) fun x H1 => ∃ (a : Addr) (ks : List (Key × V)), x = .ref a ∧ a ≠ p ∧ Rd H1 a (.dK ks) ∧ H1 p = some (.dK []) ∧ ks.length ≤ 10000 ∧
  t2 σ (upd H1 p (.dK (mergeK [] ks))) fun y H2 => ∃ (b : Addr) (ls : List (Key × V)), y = .ref b ∧ b ≠ p ∧ Rd H2 b (.dK ls) ∧ H2 p = some (.dK (mergeK [] ks)) ∧ ls.length ≤ 10000 ∧ Q (.ref p) (upd H2 p (.dK (mergeK (mergeK [] ks) ls)))
section
variable {X : Cx} {e1 e2 : Expr} {t1 t2 : TE} {pos : Pos}
theorem merge_step {E : Value → Shared → Prop} {pins : List (Addr × Obj)} {σ : L2.St} {H : Hp} {s : Shared} {p a : Addr} {kvs ks : List (Key × V)} {Q : Unit → Shared → Prop} (I : Inv X pins σ H s) (hp : H p = some (.dK kvs)) (ne : a ≠ p) (ha : Rd H a (.dK ks)) (h1 : kvs.length ≤ 20000) (h2 : ks.length ≤ 10000)
    (q : ∀ s', Inv X pins σ (upd H p (.dK (mergeK kvs ks))) s' → Q () s') : wpAny (model X.prog X.w) X.A (mergeMapping p (.ref a) false) Q E s := by
  obtain ⟨z, hd, vs, rel, dd⟩ := dk_of I.hok hp
  obtain ⟨z2, hd2, ws, rel2, dd2⟩ := dk_rd I.hok ha
  have l1 := rel.length
  have l2 := rel2.length
  have hl := length_mergeK ks kvs
  refine mergeMapping_pairs (mix_noref X.prog X.w) ne.symm hd2 dd dd2 (fun h' dd' _ hs => q _ ?_) (by rw [← l1, ← l2, sizeLine_eq]; omega)
  have he : ∃ q, h'.get? p = some q := let ⟨q, _, _, hq, _⟩ := dd'; ⟨q, hq⟩
  exact d_write I (by rw [hp]; exact True.intro) hs he (dk_new (by rw [sizeLine_eq]; omega) hd (KV.merge rel2 rel) dd')
theorem pe_two (h1 : PE X e1 t1) (h2 : PE X e2 t2) : PE X (.Dict [none, none] [e1, e2] pos) (tTwo t1 t2) := by
  refine ⟨fun pins s σ H Q I q => ?_⟩
  have hn := I.hok.fresh (Nat.le_refl s.heap.objs.size)
  have I1 := I.laid (a := s.heap.objs.size) (o := .dK []) (h' := s.heap.push { cls := .type "dict", data := .dict #[] }) (t' := s.toks) (fun _ _ q => Heap.get?_push_of_some _ q) (Nat.le_refl _) (dk_empty s.heap I.big)
  rw [arm_eval_Dict]
  refine wpAny_bind (wpAny_standAt ?_)
  show wpAny _ _ (dictDisplay [(none, do let x ← eval e1 X.env; standAt pos; pure x), (none, do let x ← eval e2 X.env; standAt pos; pure x)]) _ _ s
  unfold dictDisplay
  simp only [List.forIn_cons, List.forIn_nil, List.isEmpty_nil, if_true, pure_bind, bind_assoc]
  refine wpAny_bind (wpAny_alloc ?_)
  refine wpAny_bind (wpAny_holding (wpAny_bind (thn (h1.run pins _ σ _ _ I1 (q _ hn)) fun u s1 ⟨x, H1, I2, r1, a, ks, ex, ne, ha, hp, hk, q1⟩ => wpAny_bind (wpAny_standAt (wpAny_pure ?_)))))
  subst ex
  obtain rfl : u = Value.ref a := r1
  refine wpAny_bind (wpAny_onRaise (wpAny_tryCatch (wpAny_onRaise (wpAny_holding (merge_step I2 hp ne ha (by simp) hk fun s2 I3 => ?_)))))
  have l1 := length_mergeK ks []
  refine wpAny_bind (wpAny_holding (wpAny_bind (thn (h2.run pins _ σ _ _ I3 q1) fun u s3 ⟨y, H2, I4, r2, b, ls, ey, ne2, hb, hp2, hl, q2⟩ => wpAny_bind (wpAny_standAt (wpAny_pure ?_)))))
  subst ey
  obtain rfl : u = Value.ref b := r2
  refine wpAny_bind (wpAny_onRaise (wpAny_tryCatch (wpAny_onRaise (wpAny_holding (merge_step I4 hp2 ne2 hb (by simp at l1; omega) hl fun s4 I5 => ?_)))))
  exact wpAny_pure ⟨.ref _, _, I5, rfl, q2⟩
end
end Sl
/-! ## SlWalk -/
set_option Elab.async false
set_option linter.all false
set_option maxRecDepth 100000
set_option maxHeartbeats 4000000
namespace Sl
open PySem PySem.Spec PyProof.Rows L2
/-! ### a walk over a dict that was just made: it is locked by the walk, for good -/
def iKeysN (td : TE) : TI := fun σ H R => td σ H fun x H1 => ∃ (d : Addr) (kvs : List (Key × V)), x = .ref d ∧ H1 d = some (.dK kvs) ∧ ∀ od, R (Itk d od kvs) (upd H1 d (.frz od (.dK kvs)))
section
variable {X : Cx} {tg e : Expr} {td : TE} {p pos apos mpos : Pos}
theorem pi_keysN (he : PE X e td) : PI X tg e (iKeysN td) := by
  refine ⟨fun pins s σ H R I h => ?_⟩
  refine thn (he.run pins s σ H _ I h) fun u s1 ⟨x, H1, I1, rx, d, kvs, ex, hd, q⟩ => ?_
  subst ex
  obtain rfl : u = Value.ref d := rx
  obtain ⟨od, I2⟩ := I1.lock hd True.intro
  obtain ⟨hs, hgd, hx, es, ep, vs, hdt, hsz, kv, hm⟩ := I2.frzK upd_same
  refine iter_keys hs hgd hx hdt (pi_one (tk := s1.toks) I2 _ (turn_keys _ hdt) ⟨_, Heap.get?_push_size _ rfl, rfl, ?_⟩ (q od))
  rw [hsz] <;> rfl
/-! ### sum(d.values()) -/
theorem preSum_getD (is : List Int) : ∀ n : Nat, n ≤ is.length → preSum (fun i => is.getD i 0) n = (is.take n).sum
  | 0, _ => rfl
  | n + 1, h => by
    show preSum (fun i => is.getD i 0) n + is.getD n 0 = _
    rw [preSum_getD is n (by omega), List.take_succ_eq_append_getElem (by omega), List.sum_append]
    rw [List.getD_eq_getElem?_getD, List.getElem?_eq_getElem (by omega)]
    simp
def tSumVals (td : TE) : TE := fun σ H Q => td σ H fun x H1 => ∃ (a : Addr) (kvs : List (Key × V)) (is : List Int), x = V.ref a ∧ H1 a = some (.dK kvs) ∧ kvs.map (·.2) = is.map V.int ∧ Q (.int is.sum) H1
theorem pe_sumVals (hc : X.calm = true) (hg : Gl X "sum") (hm : X.mg "sum" = none) (hd : PE X e td) (hbase : attributeBase e "values" X.env (eval e X.env) = eval e X.env := by rfl) (hline : (apos.endLine == mpos.line) = true := by rfl)
    (hse : starEach [Expr.Call (.Attribute e "values" apos) [] [] mpos] X.env = [(false, eval (Expr.Call (.Attribute e "values" apos) [] [] mpos) X.env)] := by rfl) :
    PE X (.Call (.Name "sum" p) [.Call (.Attribute e "values" apos) [] [] mpos] [] pos) (tSumVals td) := by
  refine ⟨fun pins s σ H Q I h => ?_⟩
  refine wpAny_Call_Name_kw (ld_blt I hg hm (u := .builtin "sum") (by first | rfl | decide +kernel) ?_ (by first | decide +kernel | decide) (by first | decide +kernel | decide))
  rw [hse]
  refine PySem.callWith_builtin1 (wpAny_Call_method0_late hbase hline (thn (hd.run pins s σ H _ I h) fun v s1 ⟨x, H1, I1, r1, a, kvs, is, ex, ha, hv, q⟩ => ?_))
  subst ex
  obtain rfl : v = Value.ref a := r1
  obtain ⟨_, hsys, vs, rel, dof⟩ := dk_of I1.hok ha
  obtain ⟨ep, dat⟩ := dof.dictAt
  have dat' := dat
  obtain ⟨ob, es, ho, ex, hdat, hko, hpr, hnd⟩ := dat'
  refine ⟨"dict", "dict.values", F.plainAttrs_dict, F.slot_dict_values, F.type_dict_values, ⟨ob, ho, ex.1⟩, fun b e => ?_, Calls.callWith_builtin rfl (PySem.evalArgs_none ?_)⟩
  · cases e
    exact ⟨ob, ho, ex.2.1⟩
  refine call_meetsIn F.slot_dict_values ⟨ob, ho, ex.1⟩ F.entry_dict_values (F.args_dict_values_1 _) (meets_dict_values (mixKind X.prog X.w) a hsys) ⟨⟨vs, dof⟩, ?_⟩
  have k1 : ∀ b u, s1.heap.get? b = some u → (s1.heap.push { cls := .type "dict_values", data := .fields #[.ref a] }).get? b = some u := fun b u e => Heap.get?_push_of_some _ e
  have dat1 : (s1.heap.push { cls := .type "dict_values", data := .fields #[.ref a] }).DictAt (mixKind X.prog X.w) a vs ep := dat.keep k1
  have hlv : vs.length = is.length := by
    have e1 := congrArg List.length hv
    rw [List.length_map, List.length_map] at e1
    rw [← e1]
    exact (KV.length rel).symm
  have hval : ∀ (i : Nat) (v : Value), (∃ k, vs[i]? = some (k, v)) → ∃ t, v = Value.int (is.getD i 0) t := fun i v ⟨k, hk⟩ => by
    obtain ⟨x, h1, h2⟩ := KV.at' rel hk
    have e1 : (kvs.map (·.2))[i]? = some x := by rw [List.getElem?_map, h1] <;> rfl
    rw [hv, List.getElem?_map] at e1
    obtain ⟨j, hj, e2⟩ := Option.map_eq_some_iff.mp e1
    subst e2
    obtain ⟨t, e3⟩ := h2
    refine ⟨t, ?_⟩
    rw [e3, List.getD_eq_getElem?_getD, hj] <;> rfl
  refine call_sum_walkG (wpAny_pyIter_values (v := s1.heap.objs.size) (d := a) ⟨_, Heap.get?_push_size _ rfl, rfl, rfl⟩ dat1 ?_)
  have hlt : a < s1.heap.objs.size := Heap.lt_size ho
  have hsz : (s1.heap.push { cls := .type "dict_values", data := .fields #[.ref a] }).objs.size = s1.heap.objs.size + 1 := Heap.size_push _ _
  refine ⟨_, _, _, _, _, _, (fun i => is.getD i 0), rfl, Walks.dictValues (knd := mixKind X.prog X.w) (A := X.A.in1) (I.ok.hd hc) (s1.heap.push { cls := .type "dict_values", data := .fields #[.ref a] }).objs.size a (by rw [hsz]; exact Nat.ne_of_lt (Nat.lt_succ_of_lt hlt)) vs ep,
    ⟨⟨_, Heap.get?_push_size _ rfl, rfl, rfl⟩, dat1.keep fun b u e => Heap.get?_push_of_some _ e⟩, fun b hb => ?_, hval, fun h' tk t' hk => ?_⟩
  · show b < ((s1.heap.push _).push _).objs.size
    rw [Heap.size_push, Heap.size_push]
    rw [hsz] at hb
    rcases List.mem_cons.mp hb with e | hb
    · rw [e]
      exact Nat.lt_succ_self _
    · have e : b = a := List.mem_singleton.mp hb
      rw [e]
      exact Nat.lt_succ_of_lt (Nat.lt_succ_of_lt hlt)
  · rw [hlv, preSum_getD is _ (Nat.le_refl _), List.take_length]
    refine ⟨.int _, H1, I1.kept (t' := tk) fun b u e => hk b u (fun hmem => ?_) (Heap.get?_push_of_some _ (k1 b u e)), ⟨t', rfl⟩, q⟩
    have e1 : b = (s1.heap.push { cls := .type "dict_values", data := .fields #[.ref a] }).objs.size := List.mem_singleton.mp hmem
    have e2 := Heap.lt_size e
    rw [hsz] at e1
    rw [e1] at e2
    exact absurd e2 (Nat.not_lt.mpr (Nat.le_succ _))
end
end Sl
/-! ## SlDic -/
set_option Elab.async false
set_option linter.all false
set_option maxRecDepth 100000
set_option maxHeartbeats 4000000
namespace Sl
open PySem PySem.Spec PyProof.Rows L2
/-! ### d == e, d != e, flat values, both answers -/
def dicAll (ks ls : List (Key × V)) : Bool := ks.all fun p => match valV ls p.1 with
  | some y => eqV p.2 y
  | none => false
def dicEq (ks ls : List (Key × V)) : Bool := (ks.length == ls.length) && dicAll ks ls
def flatD (ks : List (Key × V)) : Bool := ks.all fun p => flatV p.2
def rEqDic : R2 := fun x y H Q => ∃ (a b : Addr) (ks ls : List (Key × V)), x = .ref a ∧ y = .ref b ∧ Rd H a (.dK ks) ∧ Rd H b (.dK ls) ∧ flatD ks = true ∧ flatD ls = true ∧ Q (.bl (dicEq ks ls)) H
def rNeDic : R2 := fun x y H Q => ∃ (a b : Addr) (ks ls : List (Key × V)), x = .ref a ∧ y = .ref b ∧ Rd H a (.dK ks) ∧ Rd H b (.dK ls) ∧ flatD ks = true ∧ flatD ls = true ∧ Q (.bl (!dicEq ks ls)) H
theorem valV_mem {ls : List (Key × V)} {k : Key} {y : V} (h : valV ls k = some y) : ∃ p ∈ ls, p.2 = y := by
  unfold valV at h
  cases e : ls.find? fun kv => decide (kv.1 = k) with
  | none => rw [e] at h; cases h
  | some p =>
    rw [e] at h
    exact ⟨p, List.mem_of_find?_eq_some e, Option.some.inj h⟩
theorem hits_of {A : Around} {s : Shared} {ls : List (Key × V)} {vb : List (Key × Value)} (rb : KV ls vb) (fl : flatD ls = true) : ∀ {ks : List (Key × V)} {va : List (Key × Value)}, KV ks va → flatD ks = true → PySem.W.KeqHits A s vb va (dicAll ks ls)
  | _, _, .nil, _ => .nil
  | p :: ks, q :: va, .cons h t, f => by
    obtain ⟨h1, h2⟩ := h
    have f1 : flatV p.2 = true ∧ flatD ks = true := Bool.and_eq_true_iff.mp (show (flatV p.2 && flatD ks) = true from f)
    have ih := hits_of (A := A) (s := s) rb fl t f1.2
    have rv := KV.val rb p.1
    obtain ⟨k, v⟩ := q
    have ek : p.1 = k := h1
    subst ek
    show PySem.W.KeqHits A s vb ((p.1, v) :: va) ((match valV ls p.1 with | some y => eqV p.2 y | none => false) && dicAll ks ls)
    cases e : valV ls p.1 with
    | none =>
      rw [e] at rv
      have : valueAt vb p.1 = none := by
        cases e2 : valueAt vb p.1 with
        | none => rfl
        | some u => rw [e2] at rv; exact rv.elim
      exact .miss this
    | some y =>
      rw [e] at rv
      obtain ⟨u, e2, ru⟩ := RelO.some_of rv
      obtain ⟨pp, hp, hy⟩ := valV_mem e
      have fy : flatV y = true := by rw [← hy]; exact List.all_eq_true.mp fl pp hp
      exact .hit e2 (eqAt_V h2 ru f1.1 fy) ih
section
variable {X : Cx}
theorem op_eqDic (hu : X.A.units < cLine) : OpR X (compareOp .Eq) rEqDic := by
  intro pins s σ H x y v u Q I rx ry h
  obtain ⟨a, b, ks, ls, rfl, rfl, ea, eb, fa, fb, q⟩ := h
  obtain rfl : v = Value.ref a := rx
  obtain rfl : u = Value.ref b := ry
  obtain ⟨_, ya, va, ra, da⟩ := dk_rd I.hok ea
  obtain ⟨_, yb, vb, rb, db⟩ := dk_rd I.hok eb
  refine PySem.W.keq_eq (knd := mixKind X.prog X.w) (r := dicAll ks ls) ya yb da db hu (fun _ => hits_of rb fb ra fa) (fin_bl I q ?_)
  rw [← KV.length ra, ← KV.length rb]
  rfl
theorem op_neDic (hu : X.A.units < cLine) : OpR X (compareOp .NotEq) rNeDic := by
  intro pins s σ H x y v u Q I rx ry h
  obtain ⟨a, b, ks, ls, rfl, rfl, ea, eb, fa, fb, q⟩ := h
  obtain rfl : v = Value.ref a := rx
  obtain rfl : u = Value.ref b := ry
  obtain ⟨_, ya, va, ra, da⟩ := dk_rd I.hok ea
  obtain ⟨_, yb, vb, rb, db⟩ := dk_rd I.hok eb
  refine PySem.W.keq_ne (knd := mixKind X.prog X.w) (r := dicAll ks ls) ya yb da db hu (fun _ => hits_of rb fb ra fa) (fin_bl I q ?_)
  rw [← KV.length ra, ← KV.length rb]
  rfl
end
end Sl
/-! ## SlDc -/
set_option Elab.async false
set_option linter.all false
set_option maxRecDepth 100000
set_option maxHeartbeats 4000000
namespace Sl
open PySem PySem.Spec PyProof.Rows L2
/-- a dict's comprehension over a walk: Pv by the turn and the heap (the new dict at D within) -/
theorem dc_it {J : It} {n : Nat} {G : Hp → Prop} {Y : Nat → Hp → V → Hp → Prop} (w : Walk J n G Y) {g : TG} {tt : TT} {tk tv : TE} {vs : List Nat} {σ : L2.St} {H1 : Hp} {D : Addr} {Qd : Hp → Prop} (Pv : Nat → Hp → Prop) (h0 : Pv 0 (upd H1 D (.dK []))) (hG : ∀ i H, i ≤ n → Pv i H → G H)
    (hs : ∀ i x H H', i < n → Pv i H → Y i H x H' → g x (wipe σ vs) H' fun σ2 H2 => wipe σ2 vs = wipe σ vs ∧ tt σ2 H2 fun b H3 =>
      if b = true then tk σ2 H3 fun y H4 => tv σ2 H4 fun z H5 => ∃ kvs k, y = kV k ∧ H5 D = some (.dK kvs) ∧ kvs.length < sizeLine ∧ Pv (i + 1) (upd H5 D (.dK (putK kvs k z))) else Pv (i + 1) H3) (hd : ∀ H, Pv n H → Qd H) :
    ∃ W : Nat → Nat → Hp → Prop, (∃ m, W 0 m (upd H1 D (.dK []))) ∧ ∀ i m H, W i m H →
      (J.stop i H ∧ Qd H) ∨ (J.go i H ∧ ∃ Nx : Hp → Prop, (∀ H', Nx H' → ∃ m', m' < m ∧ W (i + 1) m' H') ∧ ∀ x H', J.yld i H x H' → g x (wipe σ vs) H' fun σ2 H2 => wipe σ2 vs = wipe σ vs ∧ tt σ2 H2 fun b H3 =>
        if b = true then tk σ2 H3 fun y H4 => tv σ2 H4 fun z H5 => ∃ kvs k, y = kV k ∧ H5 D = some (.dK kvs) ∧ kvs.length < sizeLine ∧ Nx (upd H5 D (.dK (putK kvs k z))) else Nx H3) := by
  refine ⟨fun i m H => m = n - i ∧ i ≤ n ∧ Pv i H, ⟨n, by simp, Nat.zero_le _, h0⟩, ?_⟩
  rintro i m H ⟨rfl, hi, p⟩
  have q := hG i H hi p
  by_cases hlt : i < n
  · refine .inr ⟨w.goes i H hlt q, Pv (i + 1), fun H' p' => ⟨n - (i + 1), by omega, rfl, hlt, p'⟩, fun x H' y => hs i x H H' hlt p (w.yields i H x H' hlt q y)⟩
  · have e : i = n := by omega
    subst e
    exact .inl ⟨w.stops H q, hd H p⟩
/-- two names, told as a tuple -/
theorem pg_two {X : Cx} {i j kk : Nat} {x y : Str} {p1 p2 pos : Pos} (hc : X.calm = true) (hN : X.N.Nodup) (hi : X.N[i]? = some x) (hj : X.N[j]? = some y) (hx : Loc X.env.scope x) (hy : Loc X.env.scope y)
    (fx : X.fn x = true ∨ X.env.scope.names.lookup x = some .local := by first | exact .inl rfl | exact .inr rfl | assumption) (fy : X.fn y = true ∨ X.env.scope.names.lookup y = some .local := by first | exact .inl rfl | exact .inr rfl | assumption) :
    PG X (.Tuple [.Name x p1, .Name y p2] kk pos) (gTup X.K 2 (gCons (gName i) (gCons (gName j) gNil))) :=
  pg_tup hc (pgs_cons (pg_name hN hi hx fx) (pgs_cons (pg_name hN hj hy fy) pgs_nil))
end Sl
/-! ## DicI -/
set_option Elab.async false
set_option linter.all false
set_option maxRecDepth 100000
set_option maxHeartbeats 4000000
/-! dicts of names and whole numbers -/
namespace Sl
open PySem PySem.Spec PyProof.Rows L2
abbrev NI : Type := List (Str × Int)
def kvi (p : Str × Int) : Key × V := (.inr p.1, .int p.2)
def dI (A : NI) : HO := .dK (A.map kvi)
def ks (A : NI) : List Str := A.map (·.1)
def get? (A : NI) (x : Str) : Option Int := (A.find? fun p => decide (p.1 = x)).map (·.2)
def get0 (A : NI) (x : Str) : Int := (get? A x).getD 0
def nz (A : NI) : NI := A.filter fun p => decide (p.2 ≠ 0)
theorem valV_kvi (A : NI) (x : Str) : valV (A.map kvi) (.inr x) = (get? A x).map V.int := by
  unfold valV get?
  induction A with
  | nil => rfl
  | cons p r ih =>
    by_cases h : p.1 = x
    · have h1 : (fun kv : Key × V => decide (kv.1 = Sum.inr x)) (kvi p) = true := decide_eq_true (congrArg Sum.inr h)
      rw [List.map_cons, List.find?_cons_of_pos (p := fun kv : Key × V => decide (kv.1 = Sum.inr x)) h1, List.find?_cons_of_pos (by simpa using h)]
      rfl
    · have h1 : ¬ (fun kv : Key × V => decide (kv.1 = Sum.inr x)) (kvi p) = true := by
        intro e
        exact h (Sum.inr.inj (of_decide_eq_true e))
      rw [List.map_cons, List.find?_cons_of_neg (p := fun kv : Key × V => decide (kv.1 = Sum.inr x)) h1, List.find?_cons_of_neg (by simpa using h)]
      exact ih
theorem putK_new (A : NI) (x : Str) (i : Int) (h : x ∉ ks A) : putK (A.map kvi) (.inr x) (.int i) = (A ++ [(x, i)]).map kvi := by
  unfold putK
  have hn : ((A.map kvi).any fun kv => decide (kv.1 = Sum.inr x)) = false := by
    rw [List.any_eq_false]
    intro kv hk e
    obtain ⟨p, hp, rfl⟩ := List.mem_map.mp hk
    exact h (List.mem_map.mpr ⟨p, hp, Sum.inr.inj (of_decide_eq_true e)⟩)
  rw [hn, if_neg Bool.false_ne_true, List.map_append]
  rfl
theorem mergeK_new : ∀ (B A : NI), (ks (A ++ B)).Nodup → mergeK (A.map kvi) (B.map kvi) = (A ++ B).map kvi
  | [], A, _ => by
    rw [List.append_nil]
    rfl
  | p :: r, A, h => by
    have h1 : p.1 ∉ ks A := fun hm => by
      unfold ks at h hm
      rw [List.map_append, List.nodup_append] at h
      exact h.2.2 p.1 hm p.1 (List.mem_map.mpr ⟨p, List.mem_cons_self, rfl⟩) rfl
    show mergeK (putK (A.map kvi) (.inr p.1) (.int p.2)) (r.map kvi) = _
    rw [putK_new A p.1 p.2 h1, mergeK_new r (A ++ [(p.1, p.2)]) (by simpa using h)]
    rw [List.append_assoc]
    rfl
theorem mergeK_nil {A : NI} (h : (ks A).Nodup) : mergeK [] (A.map kvi) = A.map kvi := by
  have := mergeK_new A [] (by simpa using h)
  simpa using this
theorem flat_dI (A : NI) : flatD (A.map kvi) = true := by
  unfold flatD
  rw [List.all_map]
  exact List.all_eq_true.mpr fun _ _ => rfl
theorem keys_kvi (A : NI) : (A.map kvi).map (·.1) = (ks A).map Sum.inr := by
  unfold ks
  rw [List.map_map, List.map_map]
  rfl
theorem vals_kvi (A : NI) : (A.map kvi).map (·.2) = (A.map (·.2)).map V.int := by
  rw [List.map_map, List.map_map]
  rfl
theorem get?_mem {A : NI} {x : Str} {i : Int} (h : get? A x = some i) : (x, i) ∈ A := by
  unfold get? at h
  cases e : A.find? fun p => decide (p.1 = x) with
  | none => rw [e] at h; cases h
  | some p =>
    rw [e] at h
    have h1 := List.mem_of_find?_eq_some e
    have h2 : p.1 = x := by simpa using List.find?_some e
    have h3 : p.2 = i := Option.some.inj h
    rw [← h2, ← h3]
    exact h1
theorem get?_none {A : NI} {x : Str} : get? A x = none ↔ x ∉ ks A := by
  unfold get? ks
  rw [Option.map_eq_none_iff, List.find?_eq_none]
  constructor
  · intro h hm
    obtain ⟨p, hp, e⟩ := List.mem_map.mp hm
    exact h p hp (by simpa using e)
  · intro h p hp e
    exact h (List.mem_map.mpr ⟨p, hp, by simpa using e⟩)
theorem get?_of {A : NI} {x : Str} {i : Int} (h : (ks A).Nodup) (hm : (x, i) ∈ A) : get? A x = some i := by
  induction A with
  | nil => cases hm
  | cons p r ih =>
    have h' : p.1 ∉ ks r ∧ (ks r).Nodup := List.nodup_cons.mp h
    rcases List.mem_cons.mp hm with e | hr
    · subst e
      show ((((x, i) : Str × Int) :: r).find? fun p => decide (p.1 = x)).map (·.2) = some i
      rw [List.find?_cons_of_pos (by simp)]
      rfl
    · have ne : p.1 ≠ x := fun e => h'.1 (List.mem_map.mpr ⟨(x, i), hr, e.symm⟩)
      have := ih h'.2 hr
      unfold get? at this ⊢
      rw [List.find?_cons_of_neg (by simpa using ne)]
      exact this
theorem nz_ks {A : NI} {x : Str} (h : x ∈ ks (nz A)) : x ∈ ks A := by
  obtain ⟨p, hp, e⟩ := List.mem_map.mp h
  exact List.mem_map.mpr ⟨p, (List.mem_filter.mp hp).1, e⟩
theorem nz_nodup {A : NI} (h : (ks A).Nodup) : (ks (nz A)).Nodup := List.Nodup.sublist (List.Sublist.map _ List.filter_sublist) h
theorem get0_nz {A : NI} (h : (ks A).Nodup) (x : Str) : get0 (nz A) x = get0 A x := by
  unfold get0
  cases e : get? A x with
  | none =>
    have : get? (nz A) x = none := get?_none.mpr fun hm => (get?_none.mp e) (nz_ks hm)
    rw [this]
  | some i =>
    have hm := get?_mem e
    by_cases hi : i = 0
    · subst hi
      have : get? (nz A) x = none := by
        refine get?_none.mpr fun hn => ?_
        obtain ⟨p, hp, ep⟩ := List.mem_map.mp hn
        obtain ⟨h1, h2⟩ := List.mem_filter.mp hp
        have e3 := get?_of h (show (x, p.2) ∈ A by rw [← ep]; exact h1)
        rw [e] at e3
        have : (0 : Int) = p.2 := Option.some.inj e3
        simp [← this] at h2
      rw [this]
      rfl
    · have : get? (nz A) x = some i := get?_of (nz_nodup h) (List.mem_filter.mpr ⟨hm, by simpa using hi⟩)
      rw [this]
theorem get?_nz {A : NI} (h : (ks A).Nodup) (x : Str) : get? (nz A) x = if get0 A x = 0 then none else some (get0 A x) := by
  have h0 := get0_nz h x
  by_cases hz : get0 A x = 0
  · rw [if_pos hz]
    cases e : get? (nz A) x with
    | none => rfl
    | some i =>
      have hm := (List.mem_filter.mp (get?_mem e)).2
      unfold get0 at h0
      rw [e] at h0
      have : i = 0 := by
        show (some i).getD 0 = 0
        rw [h0]
        exact hz
      simp [this] at hm
  · rw [if_neg hz]
    cases e : get? (nz A) x with
    | none =>
      exfalso
      unfold get0 at h0
      rw [e] at h0
      exact hz h0.symm
    | some i =>
      unfold get0 at h0
      rw [e] at h0
      exact congrArg some h0
/-! ### == of two -/
def eqI (A B : NI) : Bool := dicEq (A.map kvi) (B.map kvi)
theorem eqV_int (i j : Int) : eqV (.int i) (.int j) = (i == j) := rfl
theorem eqI_iff {A B : NI} (ha : (ks A).Nodup) (hb : (ks B).Nodup) : eqI A B = true ↔ ∀ x, get? A x = get? B x := by
  have hall : dicAll (A.map kvi) (B.map kvi) = true ↔ ∀ p ∈ A, get? B p.1 = some p.2 := by
    unfold dicAll
    rw [List.all_map, List.all_eq_true]
    constructor
    · intro h p hp
      have := h p hp
      show get? B p.1 = some p.2
      have e : (match valV (B.map kvi) (.inr p.1) with | some y => eqV (.int p.2) y | none => false) = true := this
      rw [valV_kvi] at e
      cases g : get? B p.1 with
      | none => rw [g] at e; cases e
      | some i =>
        rw [g] at e
        have : (p.2 == i) = true := e
        rw [eq_of_beq this]
    · intro h p hp
      show (match valV (B.map kvi) (.inr p.1) with | some y => eqV (.int p.2) y | none => false) = true
      rw [valV_kvi, h p hp]
      show (p.2 == p.2) = true
      simp
  unfold eqI dicEq
  rw [Bool.and_eq_true, hall, beq_iff_eq, List.length_map, List.length_map]
  constructor
  · rintro ⟨hl, h⟩ x
    -- A's keys are B's: as many, without doubles
    have sub : ∀ y ∈ ks A, y ∈ ks B := fun y hy => by
      obtain ⟨p, hp, e⟩ := List.mem_map.mp hy
      have := get?_mem (h p hp)
      exact List.mem_map.mpr ⟨(p.1, p.2), this, e⟩
    cases e : get? A x with
    | some i =>
      rw [h (x, i) (get?_mem e)]
    | none =>
      have hx := get?_none.mp e
      cases e2 : get? B x with
      | none => rfl
      | some j =>
        exfalso
        have hxb : x ∈ ks B := List.mem_map.mpr ⟨(x, j), get?_mem e2, rfl⟩
        obtain ⟨y, hy, hny⟩ := one_not_in (x :: ks A) ((ks B)) (List.nodup_cons.mpr ⟨hx, ha⟩) (by
          rw [List.length_cons]
          unfold ks
          rw [List.length_map, List.length_map]
          omega)
        rcases List.mem_cons.mp hy with e3 | e3
        · exact hny (e3 ▸ hxb)
        · exact hny (sub y e3)
  · intro h
    have hk : ∀ {A B : NI}, (ks A).Nodup → (∀ x, get? A x = get? B x) → A.length ≤ B.length := by
      intro A B ha h
      rcases Nat.lt_or_ge B.length A.length with hlt | hge
      · exfalso
        obtain ⟨y, hy, hny⟩ := one_not_in (ks A) (ks B) ha (by unfold ks; rw [List.length_map, List.length_map]; exact hlt)
        obtain ⟨p, hp, e⟩ := List.mem_map.mp hy
        have e1 := get?_of ha (show (p.1, p.2) ∈ A from hp)
        rw [h p.1] at e1
        exact hny (List.mem_map.mpr ⟨(p.1, p.2), get?_mem e1, e⟩)
      · exact hge
    refine ⟨Nat.le_antisymm (hk ha h) (hk hb fun x => (h x).symm), fun p hp => ?_⟩
    rw [← h p.1]
    exact get?_of ha hp
theorem nz_take {A : NI} {i : Nat} {p : Str × Int} (h : A[i]? = some p) : nz (A.take (i + 1)) = nz (A.take i) ++ (if p.2 ≠ 0 then [p] else []) := by
  unfold nz
  rw [List.take_succ, h, List.filter_append]
  congr 1
  show [p].filter _ = _
  by_cases hp : p.2 = 0
  · rw [List.filter_cons_of_neg (by simpa using hp), if_neg (by simpa using hp)]
    rfl
  · rw [List.filter_cons_of_pos (by simpa using hp), if_pos hp]
    rfl
theorem take_fresh {A : NI} (hn : (ks A).Nodup) {i : Nat} {p : Str × Int} (h : A[i]? = some p) : p.1 ∉ ks (A.take i) := by
  intro hm
  have h1 : (ks (A.take (i + 1))).Nodup := List.Nodup.sublist (List.Sublist.map _ (List.take_sublist _ _)) hn
  rw [List.take_succ, h] at h1
  unfold ks at h1 hm
  rw [List.map_append, List.nodup_append] at h1
  exact h1.2.2 p.1 hm p.1 (List.mem_map.mpr ⟨p, List.mem_singleton.mpr rfl, rfl⟩) rfl
theorem paired_at {α β : Type} {R : α → β → Prop} : ∀ {xs : List α} {ys : List β} {n : Nat} {a : α}, Paired R xs ys → xs[n]? = some a → ∃ b, ys[n]? = some b ∧ R a b
  | _, _, 0, _, .cons r _, e => ⟨_, rfl, by simp at e; rw [← e]; exact r⟩
  | _, _, n + 1, _, .cons _ t, e => let ⟨b, h1, h2⟩ := paired_at (n := n) t (by simpa using e); ⟨b, by simpa using h1, h2⟩
theorem paired_same {α β : Type} {R S : α → β → Prop} (h : ∀ a b, R a b → S a b) : ∀ {xs : List α} {ys : List β}, Paired R xs ys → Paired S xs ys
  | _, _, .nil => .nil
  | _, _, .cons r t => .cons (h _ _ r) (paired_same h t)
end Sl
/-! ## DicU -/
set_option Elab.async false
set_option linter.all false
set_option maxRecDepth 100000
set_option maxHeartbeats 4000000
namespace Sl
open PySem PySem.Spec PyProof.Rows L2
/-! the keys of two dicts together -/
def putI (A : NI) (x : Str) (i : Int) : NI := if x ∈ ks A then A.map (fun p => if p.1 = x then (p.1, i) else p) else A ++ [(x, i)]
def mrgI (A B : NI) : NI := B.foldl (fun acc p => putI acc p.1 p.2) A
theorem putK_kvi (A : NI) (x : Str) (i : Int) : putK (A.map kvi) (.inr x) (.int i) = (putI A x i).map kvi := by
  by_cases h : x ∈ ks A
  · unfold putI
    rw [if_pos h]
    unfold putK
    have hn : ((A.map kvi).any fun kv => decide (kv.1 = Sum.inr x)) = true := by
      obtain ⟨p, hp, e⟩ := List.mem_map.mp h
      exact List.any_eq_true.mpr ⟨kvi p, List.mem_map.mpr ⟨p, hp, rfl⟩, decide_eq_true (congrArg Sum.inr e)⟩
    rw [if_pos hn, List.map_map, List.map_map]
    refine List.map_congr_left fun p _ => ?_
    show (if (kvi p).1 = Sum.inr x then ((kvi p).1, V.int i) else kvi p) = kvi (if p.1 = x then (p.1, i) else p)
    by_cases e : p.1 = x
    · rw [if_pos e, if_pos (show (kvi p).1 = Sum.inr x from congrArg Sum.inr e)]
      rfl
    · rw [if_neg e, if_neg (show ¬ (kvi p).1 = Sum.inr x from fun q => e (Sum.inr.inj q))]
  · rw [putK_new A x i h]
    unfold putI
    rw [if_neg h]
theorem mergeK_kvi : ∀ (B A : NI), mergeK (A.map kvi) (B.map kvi) = (mrgI A B).map kvi
  | [], _ => rfl
  | p :: r, A => by
    show mergeK (putK (A.map kvi) (.inr p.1) (.int p.2)) (r.map kvi) = (mrgI (putI A p.1 p.2) r).map kvi
    rw [putK_kvi, mergeK_kvi r]
theorem ks_putI (A : NI) (x : Str) (i : Int) : ks (putI A x i) = if x ∈ ks A then ks A else ks A ++ [x] := by
  unfold putI
  by_cases h : x ∈ ks A
  · rw [if_pos h, if_pos h]
    unfold ks
    rw [List.map_map]
    refine List.map_congr_left fun p _ => ?_
    show (if p.1 = x then (p.1, i) else p).1 = p.1
    by_cases e : p.1 = x
    · rw [if_pos e]
    · rw [if_neg e]
  · rw [if_neg h, if_neg h]
    unfold ks
    rw [List.map_append]
    rfl
theorem putI_keys {A : NI} (x : Str) (i : Int) (h : (ks A).Nodup) : (ks (putI A x i)).Nodup ∧ ∀ y, y ∈ ks (putI A x i) ↔ y ∈ ks A ∨ y = x := by
  rw [ks_putI]
  by_cases hx : x ∈ ks A
  · rw [if_pos hx]
    refine ⟨h, fun y => ⟨.inl, fun q => ?_⟩⟩
    rcases q with q | q
    · exact q
    · rw [q]
      exact hx
  · rw [if_neg hx]
    refine ⟨List.nodup_append.mpr ⟨h, by simp, fun a ha b hb e => hx ?_⟩, fun y => by simp⟩
    rw [← List.mem_singleton.mp hb, ← e]
    exact ha
theorem mrgI_keys : ∀ (B A : NI), (ks A).Nodup → (ks (mrgI A B)).Nodup ∧ ∀ y, y ∈ ks (mrgI A B) ↔ y ∈ ks A ∨ y ∈ ks B
  | [], A, h => ⟨h, fun y => ⟨.inl, fun q => q.elim id fun q => absurd q List.not_mem_nil⟩⟩
  | p :: r, A, h => by
    obtain ⟨h1, h2⟩ := putI_keys p.1 p.2 h
    obtain ⟨h3, h4⟩ := mrgI_keys r (putI A p.1 p.2) h1
    refine ⟨h3, fun y => ?_⟩
    show y ∈ ks (mrgI (putI A p.1 p.2) r) ↔ y ∈ ks A ∨ y ∈ p.1 :: ks r
    rw [h4 y, h2 y, List.mem_cons, or_assoc]
theorem mrgI_len : ∀ (B A : NI), (mrgI A B).length ≤ A.length + B.length
  | [], A => Nat.le_refl _
  | p :: r, A => by
    have := mrgI_len r (putI A p.1 p.2)
    have h2 : (putI A p.1 p.2).length ≤ A.length + 1 := by
      unfold putI
      split
      · rw [List.length_map]
        omega
      · rw [List.length_append]
        exact Nat.le_refl _
    show (mrgI (putI A p.1 p.2) r).length ≤ A.length + (r.length + 1)
    omega
theorem get0_map {U : List Str} (hU : U.Nodup) (g : Str → Int) (x : Str) : get0 (U.map fun y => (y, g y)) x = if x ∈ U then g x else 0 := by
  by_cases h : x ∈ U
  · rw [if_pos h]
    unfold get0
    rw [get?_of (A := U.map fun y => (y, g y)) (i := g x) ?_ (List.mem_map.mpr ⟨x, h, rfl⟩)]
    · rfl
    · show (List.map _ _).Nodup
      rw [List.map_map]
      have : (U.map ((fun p : Str × Int => p.1) ∘ fun y => (y, g y))) = U := by
        have : ((fun p : Str × Int => p.1) ∘ fun y => (y, g y)) = id := rfl
        rw [this, List.map_id]
      rw [this]
      exact hU
  · rw [if_neg h]
    unfold get0
    have : get? (U.map fun y => (y, g y)) x = none := get?_none.mpr fun hm => h (by
      obtain ⟨p, hp, e⟩ := List.mem_map.mp hm
      obtain ⟨y, hy, ey⟩ := List.mem_map.mp hp
      subst ey
      exact e ▸ hy)
    rw [this]
    rfl
theorem ks_map (U : List Str) (g : Str → Int) : ks (U.map fun y => (y, g y)) = U := by
  unfold ks
  rw [List.map_map]
  exact List.map_id U
theorem get0_none {A : NI} {x : Str} (h : x ∉ ks A) : get0 A x = 0 := by
  unfold get0
  rw [get?_none.mpr h]
  rfl
end Sl
/-! ## DicP -/
set_option Elab.async false
set_option linter.all false
set_option maxRecDepth 100000
set_option maxHeartbeats 4000000
namespace Sl
open PySem PySem.Spec PyProof.Rows L2
theorem nodup_perm {α : Type} [DecidableEq α] : ∀ {xs ys : List α}, xs.Nodup → ys.Nodup → (∀ a, a ∈ xs ↔ a ∈ ys) → xs.Perm ys
  | [], ys, _, _, h => by
    have : ys = [] := List.eq_nil_iff_forall_not_mem.mpr fun a ha => List.not_mem_nil ((h a).mpr ha)
    rw [this]
  | x :: xs, ys, hx, hy, h => by
    obtain ⟨h1, h2⟩ := List.nodup_cons.mp hx
    have hm : x ∈ ys := (h x).mp List.mem_cons_self
    refine (List.Perm.cons x (nodup_perm h2 (hy.erase x) fun a => ?_)).trans (List.perm_cons_erase hm).symm
    rw [List.Nodup.mem_erase_iff hy]
    constructor
    · intro ha
      exact ⟨fun e => h1 (e ▸ ha), (h a).mp (List.mem_cons_of_mem _ ha)⟩
    · rintro ⟨ne, ha⟩
      rcases List.mem_cons.mp ((h a).mpr ha) with e | q
      · exact absurd e ne
      · exact q
theorem perm_unique {α : Type} {le : α → α → Prop} (anti : ∀ a b, le a b → le b a → a = b) : ∀ {xs ys : List α}, xs.Perm ys → xs.Pairwise le → ys.Pairwise le → xs = ys
  | [], ys, h, _, _ => (List.nil_perm.mp h).symm
  | x :: xs, [], h, _, _ => absurd (List.perm_nil.mp h) (List.cons_ne_nil _ _)
  | x :: xs, y :: ys, h, h1, h2 => by
    obtain ⟨a1, a2⟩ := List.pairwise_cons.mp h1
    obtain ⟨b1, b2⟩ := List.pairwise_cons.mp h2
    have e : x = y := by
      have hx : x ∈ y :: ys := h.subset List.mem_cons_self
      have hy : y ∈ x :: xs := h.symm.subset List.mem_cons_self
      rcases List.mem_cons.mp hx with e | hx
      · exact e
      · rcases List.mem_cons.mp hy with e | hy
        · exact e.symm
        · exact anti _ _ (a1 y hy) (b1 x hx)
    subst e
    rw [perm_unique anti (List.Perm.cons_inv h) a2 b2]
def leS (a b : Str) : Prop := ¬ b.cps.toList < a.cps.toList
theorem leS_anti (a b : Str) (h1 : leS a b) (h2 : leS b a) : a = b := by
  have : a.cps.toList = b.cps.toList := List.le_antisymm (show ¬ _ from h1) (show ¬ _ from h2)
  exact Str.ext' (Array.toList_inj.mp this)
theorem leS_trans {a b c : Str} (h1 : leS a b) (h2 : leS b c) : leS a c := List.le_trans (show ¬ _ from h1) (show ¬ _ from h2)
theorem rising_pairwise : ∀ (l : List Str) (p : Str), risingS p l = true → (p :: l).Pairwise leS
  | [], p, _ => List.pairwise_singleton _ _
  | x :: r, p, h => by
    have h' : (!ltCps x.cps.toList p.cps.toList && risingS x r) = true := h
    obtain ⟨h1, h2⟩ := Bool.and_eq_true_iff.mp h'
    have ih := rising_pairwise r x h2
    have hle : leS p x := by
      rw [ltCps_eq] at h1
      intro hlt
      rw [decide_eq_true hlt] at h1
      cases h1
    refine List.pairwise_cons.mpr ⟨fun y hy => ?_, ih⟩
    rcases List.mem_cons.mp hy with e | hy
    · rw [e]
      exact hle
    · exact leS_trans hle ((List.pairwise_cons.mp ih).1 y hy)
theorem sorted_pairwise {l : List Str} (h : sortedS l = true) : l.Pairwise leS := by
  cases l with
  | nil => exact List.Pairwise.nil
  | cons x r => exact rising_pairwise r x h
/-! ### the same entries -/
theorem ks_perm {A B : NI} (h : A.Perm B) : (ks A).Perm (ks B) := h.map _
theorem get?_perm {A B : NI} (h : A.Perm B) (ha : (ks A).Nodup) (x : Str) : get? A x = get? B x := by
  have hb : (ks B).Nodup := (ks_perm h).nodup_iff.mp ha
  cases e : get? A x with
  | none =>
    refine (get?_none.mpr fun hm => (get?_none.mp e) ((ks_perm h).mem_iff.mpr hm)).symm
  | some i => exact (get?_of hb (h.mem_iff.mp (get?_mem e))).symm
theorem get0_perm {A B : NI} (h : A.Perm B) (ha : (ks A).Nodup) (x : Str) : get0 A x = get0 B x := by
  unfold get0
  rw [get?_perm h ha]
def noZ (A : NI) : Prop := ∀ p ∈ A, p.2 ≠ 0
theorem nz_noZ (A : NI) : noZ (nz A) := fun p hp => by simpa using (List.mem_filter.mp hp).2
theorem entry_iff {A : NI} (ha : (ks A).Nodup) (za : noZ A) (p : Str × Int) : p ∈ A ↔ p.2 ≠ 0 ∧ get0 A p.1 = p.2 := by
  constructor
  · intro h
    refine ⟨za p h, ?_⟩
    unfold get0
    rw [get?_of ha (show (p.1, p.2) ∈ A from h)]
    rfl
  · rintro ⟨h1, h2⟩
    unfold get0 at h2
    cases e : get? A p.1 with
    | none => rw [e] at h2; exact absurd h2.symm h1
    | some i =>
      rw [e] at h2
      have e2 : i = p.2 := h2
      subst e2
      exact get?_mem e
theorem nodup_of_ks : ∀ {A : NI}, (ks A).Nodup → A.Nodup
  | [], _ => List.nodup_nil
  | p :: r, h => by
    obtain ⟨h1, h2⟩ := List.nodup_cons.mp (show (p.1 :: ks r).Nodup from h)
    exact List.nodup_cons.mpr ⟨fun hm => h1 (List.mem_map.mpr ⟨p, hm, rfl⟩), nodup_of_ks h2⟩
theorem perm_of_get0 {A B : NI} (ha : (ks A).Nodup) (hb : (ks B).Nodup) (za : noZ A) (zb : noZ B) (h : ∀ x, get0 A x = get0 B x) : A.Perm B := by
  have na : A.Nodup := nodup_of_ks ha
  have nb : B.Nodup := nodup_of_ks hb
  refine nodup_perm na nb fun p => ?_
  rw [entry_iff ha za, entry_iff hb zb, h]
theorem sum_nz : ∀ A : NI, ((nz A).map (·.2)).sum = (A.map (·.2)).sum
  | [] => rfl
  | p :: r => by
    have ih := sum_nz r
    by_cases h : p.2 = 0
    · have : nz (p :: r) = nz r := List.filter_cons_of_neg (by simpa using h)
      rw [this, ih, List.map_cons, List.sum_cons, h, Int.zero_add]
    · have : nz (p :: r) = p :: nz r := List.filter_cons_of_pos (by simpa using h)
      rw [this, List.map_cons, List.sum_cons, ih, List.map_cons, List.sum_cons]
theorem sum_perm {A B : List Int} (h : A.Perm B) : A.sum = B.sum := by
  induction h with
  | nil => rfl
  | cons x _ ih => rw [List.sum_cons, List.sum_cons, ih]
  | swap x y l => rw [List.sum_cons, List.sum_cons, List.sum_cons, List.sum_cons]; omega
  | trans _ _ h1 h2 => exact h1.trans h2
end Sl
/-! ## CnM -/
set_option Elab.async false
set_option linter.all false
set_option maxRecDepth 100000
set_option maxHeartbeats 4000000
namespace Sl
open PySem PySem.Spec PyProof.Rows L2
/-- names in order, none of them nought -/
structure Cn (A : NI) : Prop where
  so : (ks A).Pairwise leS
  nz : noZ A
  nd : (ks A).Nodup
theorem val_of {A : NI} (n : (ks A).Nodup) {q : Str × Int} (h : q ∈ A) : get0 A q.1 = q.2 := by
  unfold get0
  rw [get?_of n (show (q.1, q.2) ∈ A from h)]
  rfl
theorem eq_map_get {A : NI} (h : (ks A).Nodup) : A = (ks A).map fun x => (x, get0 A x) := by
  unfold ks
  rw [List.map_map]
  have : ∀ q ∈ A, ((fun x => (x, get0 A x)) ∘ fun p : Str × Int => p.1) q = q := fun q hq => by
    show (q.1, get0 A q.1) = q
    rw [val_of h hq]
  conv => lhs; rw [← List.map_id A]
  exact List.map_congr_left fun q hq => (this q hq).symm
theorem cn_eq {A B : NI} (ha : Cn A) (hb : Cn B) (h : ∀ x, get0 A x = get0 B x) : A = B := by
  have p := ks_perm (perm_of_get0 ha.nd hb.nd ha.nz hb.nz h)
  have e : ks A = ks B := perm_unique leS_anti p ha.so hb.so
  rw [eq_map_get ha.nd, eq_map_get hb.nd, e]
  exact List.map_congr_left fun x _ => by rw [h]
def lessL (N : NI) (ys : List Str) : NI := (ys.filter fun x => decide (get0 N x ≠ 0)).map fun x => (x, get0 N x)
theorem ks_lessL (N : NI) (ys : List Str) : ks (lessL N ys) = ys.filter fun x => decide (get0 N x ≠ 0) := ks_map _ _
theorem lessL_cn {N : NI} {ys : List Str} (hn : (ks N).Nodup) (pm : ys.Perm (ks N)) (so : sortedS ys = true) : Cn (lessL N ys) := by
  refine ⟨?_, ?_, ?_⟩
  · rw [ks_lessL]
    exact (sorted_pairwise so).filter _
  · intro q hq
    obtain ⟨x, hx, e⟩ := List.mem_map.mp hq
    subst e
    simpa using (List.mem_filter.mp hx).2
  · rw [ks_lessL]
    exact List.Nodup.sublist List.filter_sublist (pm.nodup_iff.mpr hn)
theorem lessL_get {N : NI} {ys : List Str} (hn : (ks N).Nodup) (pm : ys.Perm (ks N)) (x : Str) : get0 (lessL N ys) x = get0 N x := by
  unfold lessL
  rw [get0_map (List.Nodup.sublist List.filter_sublist (pm.nodup_iff.mpr hn))]
  split
  · rfl
  · rename_i h
    by_cases hx : x ∈ ks N
    · by_cases h0 : get0 N x = 0
      · exact h0.symm
      · exact absurd (List.mem_filter.mpr ⟨pm.mem_iff.mpr hx, by simpa using h0⟩) h
    · exact (get0_none hx).symm
theorem lessL_sub {N : NI} {ys : List Str} (pm : ys.Perm (ks N)) {x : Str} (h : x ∈ ks (lessL N ys)) : x ∈ ks N := by
  rw [ks_lessL] at h
  exact pm.mem_iff.mp (List.mem_filter.mp h).1
theorem ks_len (A : NI) : (ks A).length = A.length := by
  unfold ks
  rw [List.length_map]
theorem lessL_len {N : NI} {ys : List Str} (pm : ys.Perm (ks N)) : (lessL N ys).length ≤ N.length := by
  rw [← ks_len, ks_lessL]
  have := List.length_filter_le (fun x => decide (get0 N x ≠ 0)) ys
  rw [pm.length_eq, ks_len] at this
  exact this
theorem cn_nil : Cn [] := ⟨List.Pairwise.nil, fun _ h => absurd h List.not_mem_nil, List.nodup_nil⟩
/-- the dict as it grows, turn by turn -/
theorem lessL_take {N : NI} {ys : List Str} {i : Nat} {x : Str} (h : ys[i]? = some x) : lessL N (ys.take (i + 1)) = lessL N (ys.take i) ++ (if get0 N x ≠ 0 then [(x, get0 N x)] else []) := by
  unfold lessL
  rw [List.take_succ, h, List.filter_append, List.map_append]
  congr 1
  show List.map _ ([x].filter _) = _
  by_cases h0 : get0 N x = 0
  · rw [List.filter_cons_of_neg (by simpa using h0), if_neg (by simpa using h0)]
    rfl
  · rw [List.filter_cons_of_pos (by simpa using h0), if_pos h0]
    rfl
theorem get?_in {M : NI} {x : Str} (h : x ∈ ks M) : get? M x = some (get0 M x) := by
  unfold get0
  cases e : get? M x with
  | none => exact absurd h (get?_none.mp e)
  | some i => rfl
/-- values below 2 ^ b -/
def bd (b : Nat) (A : NI) : Prop := ∀ x, (get0 A x).natAbs < 2 ^ b
theorem eqI_cn {A B : NI} (ha : Cn A) (hb : Cn B) : eqI A B = true ↔ ∀ x, get0 A x = get0 B x := by
  rw [eqI_iff ha.nd hb.nd]
  constructor
  · intro h x
    unfold get0
    rw [h x]
  · intro h x
    rw [cn_eq ha hb h]
/-- a word that may stand in a form -/
def nameIn (z : Str) : Str := if Txt.startswith z "old." || Txt.startswith z "new." then cutS z (some 4) none else z
def wordB (z : Str) : Bool := nameB (nameIn z)
theorem starts_eq (x y : Str) : Txt.startswith x y = (decide (y.length ≤ x.length) && (x.cps.toList.take y.length == y.cps.toList)) := by
  unfold Txt.startswith
  rw [StrLaws.subAt_eq, List.drop_zero, Nat.zero_add]
theorem starts_mem {x y : Str} (h : Txt.startswith x y = true) {c : Nat} (hc : c ∈ y.cps.toList) : c ∈ x.cps.toList := by
  rw [starts_eq] at h
  have h2 := (Bool.and_eq_true_iff.mp h).2
  rw [← eq_of_beq h2] at hc
  exact List.mem_of_mem_take hc
theorem name_nodot {z : Str} (h : nameB z = true) {y : Str} (hy : (46 : Nat) ∈ y.cps.toList) : Txt.startswith z y = false := by
  cases e : Txt.startswith z y with
  | false => rfl
  | true =>
    have := nameB_all h 46 (starts_mem e hy)
    exact absurd this (by decide +kernel)
theorem nameIn_name {z : Str} (h : nameB z = true) : nameIn z = z := by
  unfold nameIn
  rw [name_nodot h (show (46 : Nat) ∈ ("old." : Str).cps.toList by decide +kernel), name_nodot h (show (46 : Nat) ∈ ("new." : Str).cps.toList by decide +kernel)]
  rfl
theorem tl_cut4 {z : Str} : TL.tl (cutS z (some 4) none) = (TL.tl z).drop 4 := by
  have e1 : HT.sIx z.length 0 (some 4) = min 4 z.length := HT.sIx_nat ..
  have e2 : HT.sIx z.length z.length none = z.length := rfl
  show ((z.cps.toList.drop (HT.sIx z.length 0 (some 4))).take (HT.sIx z.length z.length none - HT.sIx z.length 0 (some 4))).toArray.toList = _
  rw [e1, e2]
  have l := TL.len_tl z
  show List.take (z.length - min 4 z.length) (List.drop (min 4 z.length) (TL.tl z)) = _
  rcases Nat.le_total 4 z.length with h | h
  · rw [Nat.min_eq_left h, List.take_of_length_le]
    rw [List.length_drop]
    omega
  · rw [Nat.min_eq_right h, List.drop_of_length_le (by omega), List.drop_of_length_le (by omega), List.take_nil]
theorem starts_self (a y : Str) : Txt.startswith (a ++ y) a = true := by
  rw [starts_eq]
  have e : (a ++ y).cps.toList = a.cps.toList ++ y.cps.toList := tl_app a y
  have la : a.cps.toList.length = a.length := Array.length_toList
  rw [e, ← la, List.take_left, beq_self_eq_true, Bool.and_true]
  exact decide_eq_true (by rw [PySem.Str.length_append]; omega)
theorem nameIn_lot (a y : Str) (ha : a = "old." ∨ a = "new.") : nameIn (a ++ y) = y := by
  have h : (Txt.startswith (a ++ y) "old." || Txt.startswith (a ++ y) "new.") = true := by
    rcases ha with e | e <;> subst e
    · rw [starts_self, Bool.true_or]
    · rw [starts_self, Bool.or_true]
  unfold nameIn
  rw [if_pos h]
  refine TL.ext_tl ?_
  rw [tl_cut4, tl_app]
  have l4 : (TL.tl a).length = 4 := by rcases ha with e | e <;> subst e <;> decide +kernel
  rw [← l4, List.drop_left]
theorem word_name {z : Str} (h : nameB z = true) : wordB z = true := by
  unfold wordB
  rw [nameIn_name h]
  exact h
theorem word_lot {a y : Str} (ha : a = "old." ∨ a = "new.") (h : nameB y = true) : wordB (a ++ y) = true := by
  unfold wordB
  rw [nameIn_lot a y ha]
  exact h
end Sl
/-! ## ValA -/
set_option Elab.async false
set_option linter.all false
set_option maxRecDepth 100000
set_option maxHeartbeats 8000000
namespace Lw
open PySem PySem.Spec PyProof.Rows L2 Sl
section
variable {P : Program} {w : World} {K : PySem.W.Frag} {mg : Str → Option Value} {base : Heap} {f : Addr} {fd : FuncData}
/-! ### names and whole numbers told apart -/
def sp_isname (K : PySem.W.Frag) : Sp := fun vs H Q _ => ∃ v, vs = [v] ∧ ((∃ z : Str, v = .str z ∧ z.length ≤ 1000 ∧ ∀ H', Same H H' → Q (.bl (nameB z)) H') ∨ ∃ t, TyX K H v t ∧ PySem.W.kitOne K t (.type "str") = some false ∧ ∀ H', Same H H' → Q (.bl false) H')
theorem ok_is_name (F : FnP K "is_name" s_is_name [] f fd) (mI : mg "isinstance" = none) (mS : mg "str" = none) (mL : mg "len" = none) (mA : mg "all" = none) {t1 t2 : Tok} (gL : mg "LETTERS" = some (.str alpha t1)) (gM : mg "MOST_LETTERS" = some (.int 8 t2)) :
    FnOk P w K mg base CX0 1 f fd ["thing"] (sp_isname K) := by
  refine F.ok sc_is_name (fun vs H Q E h => ?_) (fun cdv A outer s H vs Q E hr h => ?_)
  · obtain ⟨v, rfl, _⟩ := h
    rfl
  · obtain ⟨v, rfl, h⟩ := h
    have nd := sc_is_name.nd
    refine ⟨_, PSs.nox (pss_cons (ps_if (PW.pt (pw_or (pt_not (pt_val (pe_callB call_isi (by rfl) mI PyProof.Rows.Boot.«isinstance» (pa_cons (pv 0) (pa_cons (pe_bltn (v := .ty "str") (by rfl) mS PyProof.Rows.Boot.«str» rfl) pa_nil)))))
          (pw_or1 (pt_not (pt_chain op_le op_le pe_int (pe_callB call_len_str (by rfl) mL boot_len (pa_cons (pv 0) pa_nil)) (pe_glob (v := .int 8) (by rfl) gM ⟨_, rfl⟩))))))
        (pss_one (ps_ret pe_bl)) pss_nil)
      (pss_one (ps_ret (pe_callB (cr_all rfl) (by rfl) mA PyProof.Rows.Boot.«all» (pa_cons (pe_lc (own := [("letter", 1)]) (g := gName 1) (tt := tYes) rfl nd (pi_str (pv 0)) (blkOk_by (N := ["thing", "letter"]) (sc := defScope s_is_name) (by decide +kernel)) (fun _ _ _ _ _ => pg_name (i := 1) nd rfl (Or.inl rfl)) (fun _ _ _ _ _ => pts_nil)
          (fun _ _ _ _ _ => pe_cmpR op_in_sign (pv 1) (pe_glob (v := .str alpha) (by rfl) gL ⟨_, rfl⟩) (by rfl))) pa_nil))))), ?_⟩
    rcases h with ⟨z, rfl, hz, k⟩ | ⟨t, ht, hk, k⟩
    · refine ifs_of ⟨_, rfl, _, .ty "str", .type "str", .type "str", true, rfl, .ty _, .base (.str _), kit_ty (by decide +kernel), _, rfl, iteF ?_⟩
      refine ⟨_, rfl, z, rfl, (by rw [sizeLine_eq]; omega), 1, (z.length : Int), rfl, rfl, _, rfl, ite_of (fun h1 => ⟨(z.length : Int), 8, rfl, rfl, _, rfl, ?_⟩) (fun h1 => ⟨_, rfl, iteT (?_ : Q _ _)⟩)⟩
      · cases h8 : decide ((z.length : Int) ≤ 8) with
        | false =>
          refine iteT ?_
          have e : nameB z = false := by
            unfold nameB
            have : decide (z.length ≤ 8) = false := decide_eq_false (by have := of_decide_eq_false h8; omega)
            rw [this]
            simp
          have := k H fun _ _ e => e
          rw [e] at this
          exact this
        | true =>
          refine iteF (nx_of ?_)
          refine ⟨_, rfl, z, rfl, fun D hD => ?_⟩
          refine lc_it walk_str (fun i H' => Same H H' ∧ H' D = some (.lst (((z.cps.toList.take i).map letB).map V.bl))) ⟨same_new hD, upd_same⟩ (fun _ _ _ _ => trivial) ?_ ?_
          · intro i x Ha Hb hi ⟨s1, hd1⟩ ⟨e, c, hc, ex⟩
            subst e ex
            refine ⟨rfl, yes_of (iteT ?_)⟩
            refine ⟨_, rfl, c, alpha, rfl, rfl, _, hd1, ?_, ?_, ?_⟩
            · rw [List.length_map, List.length_map, List.length_take, Array.length_toList, sizeLine_eq]
              have : z.cps.size ≤ 1000 := hz
              omega
            · intro b o e
              rw [upd_ne (ne_of_none e hD)]
              exact s1 _ _ e
            · have hc' : z.cps.toList[i]? = some c := by
                rw [Array.getElem?_toList]
                exact hc
              rw [upd_same, List.take_succ, hc', List.map_append, List.map_append]
              rfl
          · intro H4 ⟨s4, hd4⟩
            refine ⟨D, _, rfl, SqL.of hd4, ?_⟩
            have e : nameB z = (((z.cps.toList.take z.cps.size).map letB).all id) := by
              unfold nameB
              have h1' : decide (1 ≤ z.length) = true := decide_eq_true (by have := of_decide_eq_true h1; omega)
              have h8' : decide (z.length ≤ 8) = true := decide_eq_true (by have := of_decide_eq_true h8; omega)
              rw [h1', h8', List.all_map, show z.cps.toList.take z.cps.size = z.cps.toList from by rw [← Array.length_toList]; exact List.take_length]
              rfl
            rw [← e]
            exact k H4 s4
      · have e : nameB z = false := by
          unfold nameB
          have : decide (1 ≤ z.length) = false := decide_eq_false (by have := of_decide_eq_false h1; omega)
          rw [this]
          rfl
        have := k H fun _ _ e => e
        rw [e] at this
        exact this
    · exact ifs_of ⟨_, rfl, _, .ty "str", t, .type "str", false, rfl, .ty _, ht, hk, _, rfl, iteT (iteT (k H fun _ _ e => e))⟩
end
end Lw
/-! ## ValB6 -/
set_option Elab.async false
set_option linter.all false
set_option maxRecDepth 100000
set_option maxHeartbeats 8000000
namespace Lw
open PySem PySem.Spec PyProof.Rows L2 Sl
section
variable {P : Program} {w : World} {K : PySem.W.Frag} {mg : Str → Option Value} {base : Heap} {f : Addr} {fd : FuncData}
def sp_isint (K : PySem.W.Frag) : Sp := fun vs H Q _ => ∃ i : Int, vs = [.int i] ∧ Q (.bl true) H
theorem ok_is_integer (F : FnP K "is_integer" s_is_integer [] f fd) (mI : mg "isinstance" = none) (mN : mg "int" = none) (mB : mg "bool" = none) : FnOk P w K mg base CX0 1 f fd ["thing"] (sp_isint K) := by
  refine F.ok sc_is_integer (fun vs H Q E h => ?_) (fun cdv A outer s H vs Q E hr h => ?_)
  · obtain ⟨v, rfl, _⟩ := h
    rfl
  · obtain ⟨i, rfl, k⟩ := h
    refine ⟨_, PSs.nox (pss_one (ps_ret (pe_and (pe_callB call_isi (by rfl) mI PyProof.Rows.Boot.«isinstance» (pa_cons (pv 0) (pa_cons (pe_bltn (v := .ty "int") (by rfl) mN PyProof.Rows.Boot.«int» rfl) pa_nil)))
      (pe_one (pe_not (pe_callB call_isi (by rfl) mI PyProof.Rows.Boot.«isinstance» (pa_cons (pv 0) (pa_cons (pe_bltn (v := .ty "bool") (by rfl) mB PyProof.Rows.Boot.«bool» rfl) pa_nil)))))))), ?_⟩
    exact ⟨_, rfl, _, .ty "int", .type "int", .type "int", true, rfl, .ty _, .base (.int _), kit_ty (by decide +kernel), _, rfl, iteT ⟨_, rfl, _, .ty "bool", .type "int", .type "bool", false, rfl, .ty _, .base (.int _), kit_ty (by decide +kernel), _, rfl, k⟩⟩
end
end Lw
/-! ## WdA -/
set_option Elab.async false
set_option linter.all false
set_option maxRecDepth 100000
set_option maxHeartbeats 8000000
namespace Lw
open PySem PySem.Spec PyProof.Rows L2 Sl
section
variable {P : Program} {w : World} {K : PySem.W.Frag} {mg : Str → Option Value} {base : Heap} {f : Addr} {fd : FuncData}
def sp_isoflot : Sp := fun vs H Q _ => ∃ z : Str, vs = [.str z] ∧ Q (.bl (Txt.startswith z "old." || Txt.startswith z "new.")) H
theorem ok_is_of_lot (F : FnP K "is_of_lot" s_is_of_lot [] f fd) {t1 t2 : Tok} (gO : mg "OLD" = some (.str "old." t1)) (gN : mg "NEW" = some (.str "new." t2)) : FnOk P w K mg base CX0 1 f fd ["text"] sp_isoflot := by
  refine F.ok sc_is_of_lot (fun vs H Q E h => ?_) (fun cdv A outer s H vs Q E hr h => ?_)
  · obtain ⟨z, rfl, _⟩ := h
    rfl
  · obtain ⟨z, rfl, k⟩ := h
    refine ⟨_, PSs.nox (pss_one (ps_ret (pe_or (pe_m1 PySem.F.slot_str_startswith PySem.F.type_str_startswith mt_startswith (pv 0) (pe_glob (v := .str "old.") (by rfl) gO ⟨_, rfl⟩)) (pe_one (pe_m1 PySem.F.slot_str_startswith PySem.F.type_str_startswith mt_startswith (pv 0) (pe_glob (v := .str "new.") (by rfl) gN ⟨_, rfl⟩)))))), ?_⟩
    refine ⟨_, rfl, ⟨_, rfl⟩, z, _, rfl, rfl, _, rfl, ite_of (fun h => ?_) (fun h => ⟨_, rfl, ⟨_, rfl⟩, z, _, rfl, rfl, ?_⟩)⟩
    · rw [h, Bool.true_or] at k
      exact k
    · rw [h, Bool.false_or] at k
      exact k
def sp_namein : Sp := fun vs H Q _ => ∃ z : Str, vs = [.str z] ∧ z.length ≤ 1000 ∧ Q (.str (nameIn z)) H
theorem ok_name_in (F : FnP K "name_in" s_name_in [] f fd) (L : Cal P w K mg base 1 "is_of_lot" [] sp_isoflot) (mL : mg "len" = none) {t1 : Tok} (gO : mg "OLD" = some (.str "old." t1)) : FnOk P w K mg base CX0 2 f fd ["word"] sp_namein := by
  refine F.ok sc_name_in (fun vs H Q E h => ?_) (fun cdv A outer s H vs Q E hr h => ?_)
  · obtain ⟨z, rfl, _⟩ := h
    rfl
  · obtain ⟨z, rfl, hz, k⟩ := h
    refine ⟨_, PSs.nox (pss_one (ps_ret (pe_ifExp (pt_val (pe_cal L hr (pa_cons (pv 0) pa_nil))) (pe_slice sl_str (pv 0) (po_some (pe_callB call_len_str (by rfl) mL boot_len (pa_cons (pe_glob (v := .str "old.") (by rfl) gO ⟨_, rfl⟩) pa_nil))) po_none) (pv 0)))), ?_⟩
    unfold nameIn at k
    refine ⟨_, rfl, z, rfl, _, rfl, ite_of (fun h => ?_) (fun h => ?_)⟩
    · rw [if_pos h] at k
      exact ⟨_, rfl, _, rfl, (by decide +kernel), 4, rfl, z, rfl, (by rw [sizeLine_eq]; omega), k⟩
    · rw [if_neg (by rw [h]; exact Bool.false_ne_true)] at k
      exact ⟨_, rfl, k⟩
def sp_isword : Sp := fun vs H Q _ => ∃ z : Str, vs = [.str z] ∧ z.length ≤ 1000 ∧ wordB z = true ∧ ∀ H', Same H H' → Q (.bl true) H'
theorem ok_is_word (F : FnP K "is_word" s_is_word [] f fd) (L : Cal P w K mg base 2 "name_in" [] sp_namein) (N : Cal P w K mg base 1 "is_name" [] (sp_isname K)) (mI : mg "isinstance" = none) (mS : mg "str" = none) : FnOk P w K mg base CX0 3 f fd ["thing"] sp_isword := by
  refine F.ok sc_is_word (fun vs H Q E h => ?_) (fun cdv A outer s H vs Q E hr h => ?_)
  · obtain ⟨z, rfl, _⟩ := h
    rfl
  · obtain ⟨z, rfl, hz, hw, k⟩ := h
    have hr1 := hr.mono (show 1 ≤ 2 by decide)
    refine ⟨_, PSs.nox (pss_one (ps_ret (pe_and (pe_callB call_isi (by rfl) mI PyProof.Rows.Boot.«isinstance» (pa_cons (pv 0) (pa_cons (pe_bltn (v := .ty "str") (by rfl) mS PyProof.Rows.Boot.«str» rfl) pa_nil)))
      (pe_one (pe_cal N hr1 (pa_cons (pe_cal L hr (pa_cons (pv 0) pa_nil)) pa_nil)))))), ?_⟩
    refine ⟨_, rfl, _, .ty "str", .type "str", .type "str", true, rfl, .ty _, .base (.str _), kit_ty (by decide +kernel), _, rfl, iteT ⟨_, rfl, z, rfl, hz, _, rfl, .inl ⟨_, rfl, ?_, fun H' s1 => ?_⟩⟩⟩
    · have := nameB_len hw
      omega
    · have e : nameB (nameIn z) = true := hw
      rw [e]
      exact k H' s1
end
end Lw
/-! ## ValE6 -/
set_option Elab.async false
set_option linter.all false
set_option maxRecDepth 100000
set_option maxHeartbeats 8000000
namespace Lw
open PySem PySem.Spec PyProof.Rows L2 Sl
section
variable {P : Program} {w : World} {K : PySem.W.Frag} {mg : Str → Option Value} {base : Heap} {f : Addr} {fd : FuncData}
def sp_sums : Sp := fun vs H Q _ => ∃ (a b : Addr) (A B : NI), vs = [.ref a, .ref b] ∧ H a = some (dI A) ∧ H b = some (dI B) ∧ (ks A).Nodup ∧ (ks B).Nodup ∧ A.length ≤ 400 ∧ B.length ≤ 400 ∧
  ∀ (d : Addr) (S : NI) (H' : Hp), H d = none → Same H H' → H' d = some (dI S) → (ks S).Nodup → (∀ x, x ∈ ks S ↔ x ∈ ks A ∨ x ∈ ks B) → (∀ x, get0 S x = get0 A x + get0 B x) → S.length ≤ 800 → Q (.ref d) H'
theorem ok_sums (F : FnP K "sums" s_sums [] f fd) : FnOk P w K mg base CX0 1 f fd ["one", "other"] sp_sums := by
  refine F.ok sc_sums (fun vs H Q E h => ?_) (fun cdv A outer s H vs Q E hr h => ?_)
  · obtain ⟨a, b, A, B, rfl, _⟩ := h
    rfl
  · obtain ⟨a, b, A, B, rfl, ha, hb, na, nb, la, lb, k⟩ := h
    have nd := sc_sums.nd
    have hu := hu_of hr
    refine ⟨_, PSs.nox (pss_one (ps_ret (pe_dc (own := [("name", 2)]) (g := gName 2) (tt := tYes) rfl nd (pi_keysN (pe_two (pv 0) (pv 1))) (blkOk_by (N := ["one", "other", "name"]) (sc := defScope s_sums) (by decide +kernel))
      (fun _ _ _ _ _ => pg_name (i := 2) nd rfl (Or.inl rfl)) (fun _ _ _ _ _ => pts_nil) (fun _ _ _ _ _ => pv 2)
      (fun _ _ _ _ _ => pe_op op_add (pe_dget2 hu (pv 0) (pv 2) pe_int ⟨rfl, rfl, rfl, rfl⟩) (pe_dget2 hu (pv 1) (pv 2) pe_int ⟨rfl, rfl, rfl, rfl⟩))))), ?_⟩
    intro p hp
    have nap : a ≠ p := fun e => by rw [e, hp] at ha; cases ha
    have nbp : b ≠ p := fun e => by rw [e, hp] at hb; cases hb
    refine ⟨_, rfl, a, A.map kvi, rfl, nap, .inl (by rw [upd_ne nap]; exact ha), upd_same, (by rw [List.length_map]; omega), ?_⟩
    refine ⟨_, rfl, b, B.map kvi, rfl, nbp, .inl (by rw [upd_ne nbp, upd_ne nbp]; exact hb), upd_same, (by rw [List.length_map]; omega), ?_⟩
    rw [mergeK_nil na, mergeK_kvi]
    obtain ⟨nU, mU⟩ := mrgI_keys B A na
    have lU := mrgI_len B A
    generalize mrgI A B = M at nU mU lU
    refine ⟨p, M.map kvi, rfl, upd_same, fun od => ?_⟩
    have e0 : ∀ c o, H c = some o → (upd (upd (upd (upd H p (.dK [])) p (.dK (A.map kvi))) p (.dK (M.map kvi))) p (.frz od (.dK (M.map kvi)))) c = some o := fun c o e => by
      have n := ne_of_none e hp
      rw [upd_ne n, upd_ne n, upd_ne n, upd_ne n]
      exact e
    have ep : (upd (upd (upd (upd H p (.dK [])) p (.dK (A.map kvi))) p (.dK (M.map kvi))) p (.frz od (.dK (M.map kvi)))) p = some (.frz od (.dK (M.map kvi))) := upd_same
    generalize upd (upd (upd (upd H p (.dK [])) p (.dK (A.map kvi))) p (.dK (M.map kvi))) p (.frz od (.dK (M.map kvi))) = H1 at e0 ep
    intro D hD
    refine dc_it (walk_keys (o := od) (d := p) (kvs := M.map kvi)) (fun i H' => Same H1 H' ∧ H' D = some (dI (((ks M).take i).map fun x => (x, get0 A x + get0 B x)))) ⟨same_new hD, upd_same⟩ (fun i H' _ ⟨s2, _⟩ => s2 _ _ ep) ?_ ?_
    · intro i x Ha Hb hi ⟨s2, hd⟩ ⟨e, kk, v, hk, ex⟩
      subst e ex
      rw [List.getElem?_map] at hk
      obtain ⟨q, hq, eq⟩ := Option.map_eq_some_iff.mp hk
      have ek : kk = .inr q.1 := (congrArg Prod.fst eq).symm
      subst ek
      have ha2 := s2 _ _ (e0 _ _ ha)
      have hb2 := s2 _ _ (e0 _ _ hb)
      have hqk : (ks M)[i]? = some q.1 := by
        unfold ks
        rw [List.getElem?_map, hq]
        rfl
      refine ⟨rfl, yes_of (iteT ?_)⟩
      refine ⟨_, rfl, _, rfl, a, rfl, .inl ⟨_, .inl ha2⟩, _, rfl, valV (A.map kvi) (.inr q.1), .inl ⟨A.map kvi, .inr q.1, .inl ha2, rfl, rfl⟩, _, rfl, b, rfl, .inl ⟨_, .inl hb2⟩, _, rfl, valV (B.map kvi) (.inr q.1), .inl ⟨B.map kvi, .inr q.1, .inl hb2, rfl, rfl⟩, ?_⟩
      have gv : ∀ C : NI, (valV (C.map kvi) (.inr q.1)).getD (.int 0) = .int (get0 C q.1) := fun C => by
        rw [valV_kvi]
        unfold get0
        cases get? C q.1 <;> rfl
      refine ⟨get0 A q.1, get0 B q.1, gv A, gv B, _, .inr q.1, rfl, hd, ?_, ?_, ?_⟩
      · rw [List.length_map, List.length_map, List.length_take, sizeLine_eq]
        unfold ks
        rw [List.length_map]
        omega
      · intro c o e
        rw [upd_ne (ne_of_none e hD)]
        exact s2 _ _ e
      · rw [upd_same, List.take_succ, hqk, List.map_append]
        show some (HO.dK (putK _ (.inr q.1) (.int (get0 A q.1 + get0 B q.1)))) = _
        rw [putK_new _ _ _ ?_]
        · rfl
        · rw [ks_map]
          intro hm
          have h1 : ((ks M).take (i + 1)).Nodup := List.Nodup.sublist (List.take_sublist _ _) nU
          rw [List.take_succ, hqk, List.nodup_append] at h1
          exact h1.2.2 q.1 hm q.1 (List.mem_singleton.mpr rfl) rfl
    · intro H2 ⟨s2, hd⟩
      have et : (ks M).take (M.map kvi).length = ks M := by
        rw [List.length_map]
        have : M.length = (ks M).length := by unfold ks; rw [List.length_map]
        rw [this]
        exact List.take_length
      rw [et] at hd
      have kD : H D = none := by
        cases eD : H D with
        | none => rfl
        | some o => rw [e0 _ _ eD] at hD; cases hD
      refine k D _ H2 kD (fun c o e => s2 _ _ (e0 _ _ e)) hd (by rw [ks_map]; exact nU) (fun x => by rw [ks_map]; exact mU x) (fun x => ?_) ?_
      · rw [get0_map nU (fun x => get0 A x + get0 B x)]
        by_cases hx : x ∈ ks M
        · rw [if_pos hx]
        · rw [if_neg hx, get0_none (fun h => hx ((mU x).mpr (.inl h))), get0_none (fun h => hx ((mU x).mpr (.inr h)))]
          rfl
      · rw [List.length_map]
        unfold ks
        rw [List.length_map]
        omega
end
end Lw
/-! ## SlOps -/
set_option Elab.async false
set_option linter.all false
set_option maxRecDepth 100000
set_option maxHeartbeats 4000000
/-! an own class's ==, != and the operators that it defines, whatever they answer -/
namespace Sl
open PySem PySem.Spec PyProof.Rows L2
section
variable {prog : Program} {w : World} {A : Around} {E : Value → Shared → Prop} {s : Shared} {K : PySem.W.Frag} {x C L f : Addr} {h₀ : Heap} {m : Str → Option Value} {ox : Obj} {od : Option Obj} {b tb : Value}
theorem ne_entry {Q : Fin → Shared → Prop} (X : K.In s.heap) (I : PySem.W.InstAt s.heap x ox C od) (hs : PySem.W.findIn K (.ref C) "__eq__" = some (some (.ref f))) (hf : PySem.W.isFn K (.ref f) = true) (hu : A.units < cLine)
    (h : wpAny (model prog w) A (call (.ref f) [.ref x, b]) (fun v s' => ∃ c, v = .bool c ∧ Q (.done (.ret (.bool (!c)))) s') E s) : wpAny (model prog w) A (Builtin.«object.__ne__» ⟨[.ref x, b], []⟩) Q E s := by
  unfold Builtin.«object.__ne__»
  repeat (first
    | with_reducible refine wpAny_cRoomFor hu ?_
    | (refine wpAny_bind (m := callSpecialIfBound? (.ref x) (Str.ofString "__eq__") [b])
        (PySem.W.ifBound_K X I hs hf (wpAny_mono h (fun r s' hr => by
          obtain ⟨c, rfl, hq⟩ := hr
          repeat (first | exact hq | exact wpAny_pure hq | exact wpAny_truthy_bool hq | (refine wpAny_bind (m := truthy (.bool _)) (wpAny_truthy_bool ?_)) | wp_step)) fun _ _ e => e)))
    | wp_step)
theorem ifBound_B {M : Model} {name : Str} {id : String} {args : List Value} {Q : Option Value → Shared → Prop} (X : K.In s.heap) (I : PySem.W.InstAt s.heap x ox C od) (hs : PySem.W.findIn K (.ref C) name = some (some (.builtin id))) (hb : bindSpecial (.builtin id) (.ref x) = pure (.builtin id, [.ref x]))
    (h : wpAny M A (call (.builtin id) (.ref x :: args)) (fun v => Q (some v)) E s) : wpAny M A (callSpecialIfBound? (.ref x) name args) Q E s := by
  simp only [callSpecialIfBound?, bindSpecialIfBound?]
  refine wpAny_holding (wpAny_bind (wpAny_bind (wpAny_bind (I.type.here ((PySem.W.looks_findIn X hs).here ?_)))))
  refine wpAny_bind (wpAny_askSetting (wpAny_ite ?_))
  have fin : wpAny M A (call (.builtin id) ([.ref x] ++ args) >>= fun v => pure (some v)) Q E s := wpAny_bind (wpAny_mono h (fun v s' h' => wpAny_pure h') fun _ _ h' => h')
  rw [hb]
  split
  · exact wpAny_bind (wpAny_pure (wpAny_pure (by exact fin)))
  · exact wpAny_tryCatch (wpAny_bind (wpAny_pure (wpAny_pure (by exact fin))))
theorem ne_K {Q : Value → Shared → Prop} (hu : A.units + 1 < cLine) (X : K.In s.heap) (I : PySem.W.InstAt s.heap x ox C od) (hb : PySem.W.Looks (model prog w) s.heap (typeOf b) tb) (hn : PySem.W.notFirst K C tb = true)
    (hs : PySem.W.findIn K (.ref C) "__eq__" = some (some (.ref f))) (hf : PySem.W.isFn K (.ref f) = true) (hne : PySem.W.findIn K (.ref C) "__ne__" = some (some (.builtin "object.__ne__"))) (ho : PySem.W.subIn K (.ref C) (.type "object") = some true)
    (h : wpAny (model prog w) A.in1 (call (.ref f) [.ref x, b]) (fun v s' => ∃ c, v = .bool c ∧ Q (.bool (!c)) s') E s) : wpAny (model prog w) A (richCompare .NotEq (.ref x) b) Q E s := by
  have one : wpAny (model prog w) A (tryCompare (.ref x) "__ne__" b) (fun r s' => ∃ v, r = some v ∧ Q v s') E s := by
    unfold tryCompare
    refine wpAny_bind (ifBound_B X I hne (F.cmp_object.ne.bind (.ref x)) (wpAny_call (codeAny_call_builtin F.cmp_object.ne.plain F.cmpEntry_ne
      (PySem.W.check_slot F.cmpKind_ne F.cmpSplit_ne (I.type.andThen (PySem.W.looks_subIn X ho)) (F.cmpArgs_ne _ _) (ne_entry (A := A.in1) X I hs hf hu (wpAny_mono h (fun v s' hv => ?_) fun _ _ e => e))))))
    obtain ⟨c, rfl, hq⟩ := hv
    first | exact ⟨c, rfl, wpAny_pure ⟨_, rfl, hq⟩⟩ | exact ⟨c, rfl, _, rfl, hq⟩ | exact ⟨c, rfl, wpAny_pure (wpAny_pure ⟨_, rfl, hq⟩)⟩
  unfold richCompare
  simp only [oneThing_ref]
  refine wpAny_holding (wpAny_bind (wpAny_cRoomFor (Nat.lt_of_succ_lt hu) ?_))
  rw [cmpInfo_NotEq]
  dsimp only
  refine wpAny_bind (I.type.here (wpAny_bind (hb.here ?_)))
  split
  · rename_i q
    have e : PySem.W.subIn K tb (.ref C) = some false := by
      rcases Bool.or_eq_true_iff.mp hn with e | e
      · rw [beq_iff_eq.mp e] at q; simp at q
      · exact beq_iff_eq.mp e
    refine wpAny_bind ((PySem.W.looks_subIn X e).here ?_)
    simp only [Bool.false_eq_true, if_false]
    refine wpAny_bind (wpAny_mono one (fun r s' z => ?_) fun _ _ e => e)
    obtain ⟨v, rfl, hq⟩ := z
    exact wpAny_pure hq
  · refine wpAny_bind (wpAny_pure ?_)
    simp only [Bool.false_eq_true, if_false]
    refine wpAny_bind (wpAny_mono one (fun r s' z => ?_) fun _ _ e => e)
    obtain ⟨v, rfl, hq⟩ := z
    exact wpAny_pure hq
end
/-! ### the rules -/
/-- the type of the right one: the class C itself, or one that C is not of -/
def rightT (K : PySem.W.Frag) (C : Addr) (H : Hp) (y : V) : Prop := (∃ (a dx : Addr) (fs : List (Str × V)), y = .ref a ∧ H a = some (.ins C dx fs)) ∨ ∃ t, TyX K H y t ∧ PySem.W.notFirst K C t = true
/-- x == y, x != y by the own == of the left one, which lets no exception out -/
def rOwnEq (K : PySem.W.Frag) (C : Addr) (sp : Sp) : R2 := fun x y H Q => ∃ (a dx : Addr) (fs : List (Str × V)), x = .ref a ∧ H a = some (.ins C dx fs) ∧ rightT K C H y ∧ sp [.ref a, y] H (fun v H' => ∃ c, v = .bl c ∧ Q (.bl c) H') (fun _ _ _ => False)
def rOwnNe (K : PySem.W.Frag) (C : Addr) (sp : Sp) : R2 := fun x y H Q => ∃ (a dx : Addr) (fs : List (Str × V)), x = .ref a ∧ H a = some (.ins C dx fs) ∧ rightT K C H y ∧ sp [.ref a, y] H (fun v H' => ∃ c, v = .bl c ∧ Q (.bl (!c)) H') (fun _ _ _ => False)
/-- an operator of two instances of C by the own def of the left one -/
def rOwnOp (C : Addr) (sp : Sp) : R2 := fun x y H Q => ∃ (a dx : Addr) (fs : List (Str × V)) (b dy : Addr) (gs : List (Str × V)), x = .ref a ∧ H a = some (.ins C dx fs) ∧ y = .ref b ∧ H b = some (.ins C dy gs) ∧ sp [.ref a, .ref b] H Q (fun _ _ _ => False)
section
variable {X : Cx} {CX : CXT} {k : Nat} {C f : Addr} {fd : FuncData} {ps : List Str} {sp : Sp}
theorem right_looks {pins : List (Addr × Obj)} {σ : L2.St} {H : Hp} {s : Shared} {y : V} {u : Value} (I : Inv X pins σ H s) (ry : RelV y u) (h : rightT X.K C H y) : ∃ tb, PySem.W.Looks (model X.prog X.w) s.heap (typeOf u) tb ∧ PySem.W.notFirst X.K C tb = true := by
  rcases h with ⟨a, dx, fs, rfl, ha⟩ | ⟨t, ht, hn⟩
  · cases ry
    obtain ⟨mA, J, _⟩ := ins_get I.hok ha
    obtain ⟨od, J, _⟩ := J.look
    exact ⟨_, J.type, by simp [PySem.W.notFirst]⟩
  · obtain ⟨P, KX, hp, _⟩ := kit_of I ry ht
    exact ⟨t, KX.ty _ _ I.kIn hp, hn⟩
theorem call_at {A : Around} {pins : List (Addr × Obj)} {σ : L2.St} {H : Hp} {s : Shared} {x y : V} {u v : Value} {Q : VK} (F : FnOk X.prog X.w X.K X.mg X.base CX k f fd ps sp) (hr : Room k A) (hfr : A.frames = X.A.frames) (hb : Binds X.K fd ps []) (hx : Passes CX X (fun _ _ _ => False)) (I : Inv X pins σ H s)
    (rx : RelV x v) (ry : RelV y u) (h : sp [x, y] H Q (fun _ _ _ => False)) : wpAny (model X.prog X.w) A (call (.ref f) [v, u]) (fun r s' => ∃ z H', Inv X pins σ H' s' ∧ RelV z r ∧ Q z H') X.xe s := by
  have e0 : Env0 X.prog X.w X.K X.mg X.base A X.stack s H := by
    have e := I.env0
    exact ⟨by rw [hfr]; exact e.frames, e.mod, e.bs, e.bsz, e.funs, e.frf, e.hok, e.bare⟩
  have hl := F.len _ _ _ _ h
  have r2 : Vals [x, y] [v, u] := .cons rx (.cons ry .nil)
  refine wpAny_call (codeAny_mono (F.run A X.stack s H ⟨[v, u], []⟩ [v, u] [x, y] _ _ hr e0 (by
    have := hb s [v, u] I.kIn (by simpa using hl)
    simpa using this) r2 h) fun r s' hq => ?_)
  cases r with
  | error e => exact hx pins σ H s e s' I hq
  | ok fl =>
    cases fl with
    | ret w =>
      obtain ⟨z, H', I', rz, q⟩ := I.after hq
      exact ⟨z, H', I', rz, q⟩
    | next => exact False.elim hq
    | brk => exact False.elim hq
    | cont => exact False.elim hq
theorem op_ownEq (F : FnOk X.prog X.w X.K X.mg X.base CX k f fd ps sp) (hs : PySem.W.findIn X.K (.ref C) "__eq__" = some (some (.ref f))) (hf : PySem.W.isFn X.K (.ref f) = true) (hb : Binds X.K fd ps []) (hx : Passes CX X (fun _ _ _ => False)) (hr : Room k X.A) :
    OpR X (compareOp .Eq) (rOwnEq X.K C sp) := by
  intro pins s σ H x y v u Q I rx ry h
  obtain ⟨a, dx, fs, rfl, ha, hy, q⟩ := h
  cases (show v = Value.ref a from rx)
  obtain ⟨mA, J, _⟩ := ins_get I.hok ha
  obtain ⟨od, J, _⟩ := J.look
  obtain ⟨tb, hT, hn⟩ := right_looks I ry hy
  obtain ⟨m, hF⟩ := I.fr
  show wpAny (model X.prog X.w) X.A (richCompare .Eq (.ref a) u) (EP X pins σ Q) X.xe s
  refine PySem.W.cmp_K (op := .Eq) (tb := tb) hr.units0 hF I.ok.mod.kin J hT hn hs hf ?_
  refine wpAny_mono (call_at F hr rfl hb hx I (x := .ref a) rfl ry q) (fun r s' z => ?_) fun _ _ x => x
  obtain ⟨z, H', I', rz, c, ez, q'⟩ := z
  subst ez
  cases rz
  exact ⟨.bl c, H', I', rfl, q'⟩
theorem op_ownNe (F : FnOk X.prog X.w X.K X.mg X.base CX k f fd ps sp) (hs : PySem.W.findIn X.K (.ref C) "__eq__" = some (some (.ref f))) (hf : PySem.W.isFn X.K (.ref f) = true) (hne : PySem.W.findIn X.K (.ref C) "__ne__" = some (some (.builtin "object.__ne__")))
    (ho : PySem.W.subIn X.K (.ref C) (.type "object") = some true) (hb : Binds X.K fd ps []) (hx : Passes CX X (fun _ _ _ => False)) (hr : Room (k + 1) X.A) : OpR X (compareOp .NotEq) (rOwnNe X.K C sp) := by
  intro pins s σ H x y v u Q I rx ry h
  obtain ⟨a, dx, fs, rfl, ha, hy, q⟩ := h
  cases (show v = Value.ref a from rx)
  obtain ⟨mA, J, _⟩ := ins_get I.hok ha
  obtain ⟨od, J, _⟩ := J.look
  obtain ⟨tb, hT, hn⟩ := right_looks I ry hy
  show wpAny (model X.prog X.w) X.A (richCompare .NotEq (.ref a) u) (EP X pins σ Q) X.xe s
  refine ne_K (tb := tb) (by have := hr.units; omega) I.kIn J hT hn hs hf hne ho ?_
  refine wpAny_mono (call_at F hr.in1 rfl hb hx I (x := .ref a) rfl ry q) (fun r s' z => ?_) fun _ _ x => x
  obtain ⟨z, H', I', rz, c, ez, q'⟩ := z
  subst ez
  cases rz
  exact ⟨c, rfl, .bl (!c), H', I', rfl, q'⟩
theorem op_ownOp {op : Operator} (F : FnOk X.prog X.w X.K X.mg X.base CX k f fd ps sp) (hs : PySem.W.findIn X.K (.ref C) (PySem.dunder op.info.2) = some (some (.ref f))) (hf : PySem.W.isFn X.K (.ref f) = true) (hc : PySem.W.selfFirst X.K C = true) (hb : Binds X.K fd ps [])
    (hx : Passes CX X (fun _ _ _ => False)) (hr : Room k X.A) : OpR X (binaryOp op) (rOwnOp C sp) := by
  intro pins s σ H x y v u Q I rx ry h
  obtain ⟨a, dx, fs, b, dy, gs, rfl, ha, rfl, hb', q⟩ := h
  cases (show v = Value.ref a from rx)
  cases (show u = Value.ref b from ry)
  obtain ⟨mA, J, _⟩ := ins_get I.hok ha
  obtain ⟨od, J, _⟩ := J.look
  obtain ⟨mB, J', _⟩ := ins_get I.hok hb'
  obtain ⟨od', J', _⟩ := J'.look
  obtain ⟨m, hF⟩ := I.fr
  refine PySem.W.binop_K hF I.ok.mod.kin J J'.type hc hs hf ?_
  refine wpAny_mono (call_at F hr rfl hb hx I (x := .ref a) (y := .ref b) rfl rfl q) (fun r s' z => ?_) fun _ _ x => x
  obtain ⟨z, H', I', rz, q'⟩ := z
  have fin : EP X pins σ Q r s' := ⟨z, H', I', rz, q'⟩
  cases z with
  | non => cases (show r = Value.none from rz); exact fin
  | bl c => cases (show r = Value.bool c from rz); exact fin
  | int i => obtain ⟨t, rfl⟩ := (show ∃ t, r = Value.int i t from rz); exact fin
  | str i => obtain ⟨t, rfl⟩ := (show ∃ t, r = Value.str i t from rz); exact fin
  | byt i => obtain ⟨t, rfl⟩ := (show ∃ t, r = Value.bytes i t from rz); exact fin
  | flt i => obtain ⟨t, rfl⟩ := (show ∃ t, r = Value.float i t from rz); exact fin
  | ref i => cases (show r = Value.ref i from rz); exact fin
  | ty i => cases (show r = Value.type i from rz); exact fin
end
end Sl
/-! ## FmA -/
set_option Elab.async false
set_option linter.all false
set_option maxRecDepth 100000
set_option maxHeartbeats 8000000
set_option pp.deepTerms false
set_option pp.deepTerms.threshold 3
set_option pp.maxSteps 500
namespace Sl
open PySem PySem.Spec PyProof.Rows L2
theorem same_unlock {H H' : Hp} {d : Addr} {u : HO} {od : Obj} (hd : H d = some u) (s : Same (upd H d (.frz od u)) H') : Same H (upd H' d u) := fun c o e => by
  by_cases h : c = d
  · subst h
    rw [upd_same, ← e, hd]
  · rw [upd_ne h]
    exact s _ _ (by rw [upd_ne h]; exact e)
theorem rd_lock {H : Hp} {d e : Addr} {u v : HO} {od : Obj} (hd : H d = some u) (he : H e = some v) : Rd (upd H d (.frz od u)) e v := by
  by_cases h : e = d
  · subst h
    rw [hd] at he
    rw [← Option.some.inj he]
    exact .inr ⟨od, upd_same⟩
  · exact .inl (by rw [upd_ne h]; exact he)
theorem rd_same {H H' : Hp} {a : Addr} {u : HO} (h : Rd H a u) (k : Same H H') : Rd H' a u := by
  rcases h with h | ⟨o, h⟩
  · exact .inl (k _ _ h)
  · exact .inr ⟨o, k _ _ h⟩
theorem free_same {H H' : Hp} {a : Addr} (k : Same H H') (h : H' a = none) : H a = none := by
  cases e : H a with
  | none => rfl
  | some o => rw [k _ _ e] at h; cases h
theorem free_lock {H : Hp} {d a : Addr} {u : HO} {od : Obj} (h : (upd H d (.frz od u)) a = none) (hd : H d = some u) : H a = none ∧ a ≠ d := by
  by_cases e : a = d
  · subst e
    rw [upd_same] at h
    cases h
  · rw [upd_ne e] at h
    exact ⟨h, e⟩
theorem getD_kvi (A : NI) (z : Str) : (valV (A.map kvi) (.inr z)).getD (.int 0) = .int (get0 A z) := by
  rw [valV_kvi]
  unfold get0
  cases get? A z <;> rfl
theorem pair_kvi {N : NI} {i : Nat} {H H' : Hp} {x : V} (hi : i < (N.map kvi).length) (y : YPair (fun i => (N.map kvi)[i]?.map fun kv => kV kv.1) (fun i => (N.map kvi)[i]?.map Prod.snd) i H x H') :
    ∃ (T : Addr) (q : Str × Int), N[i]? = some q ∧ x = .ref T ∧ H T = none ∧ H' = upd H T (.tup [.str q.1, .int q.2]) := by
  obtain ⟨T, a, b, h1, hT, h2, ha, hb⟩ := y
  rw [List.length_map] at hi
  have hq : N[i]? = some N[i] := List.getElem?_eq_getElem hi
  dsimp only at ha hb
  rw [List.getElem?_map, hq] at ha hb
  have ea : a = .str N[i].1 := (Option.some.inj ha).symm
  have eb : b = .int N[i].2 := (Option.some.inj hb).symm
  subst ea eb
  exact ⟨T, N[i], hq, h1, hT, h2⟩
end Sl
namespace Lw
open PySem PySem.Spec PyProof.Rows L2 Sl
section
variable {P : Program} {w : World} {K : PySem.W.Frag} {mg : Str → Option Value} {base : Heap} {f : Addr} {fd : FuncData} {C : Addr}
theorem if1_of {c : TT} {t u : TS} {D : Ends} {σ : L2.St} {H : Hp} (h : c σ H fun b H1 => if b = true then t D σ H1 else u D σ H1) : tIfS c t u D σ H := h
theorem nxs_of {v : TS} {D D' : Ends} {σ : L2.St} {H : Hp} (h : v D σ H) : ({ D' with nx := v D } : Ends).nx σ H := h
def okW (N : NI) : Prop := (ks N).Nodup ∧ (∀ x ∈ ks N, wordB x = true ∧ x.length ≤ 1000) ∧ N.length ≤ 60
def sp_cparts : Sp := fun vs H Q _ => ∃ (d : Addr) (N : NI), vs = [.ref d] ∧ H d = some (dI N) ∧ okW N ∧
  ∀ (d' : Addr) (L : NI) (H' : Hp), H d' = none → Same H H' → H' d' = some (dI L) → Cn L → (∀ x, get0 L x = get0 N x) → (∀ x ∈ ks L, x ∈ ks N) → L.length ≤ N.length → Q (.ref d') H'
abbrev cpN : List Str := ["told", "word", "times"]
theorem ok_cparts (F : FnP K "checked_parts" s_checked_parts [] f fd) (W : Cal P w K mg base 3 "is_word" [] sp_isword) (I : Cal P w K mg base 1 "is_integer" [] (sp_isint K)) (mI : mg "isinstance" = none) (mD : mg "dict" = none) (mS : mg "sorted" = none) : FnOk P w K mg base CX0 4 f fd ["told"] sp_cparts := by
  refine F.ok sc_checked_parts (fun vs H Q E h => ?_) (fun cdv A outer s H vs Q E hr h => ?_)
  · obtain ⟨d, N, rfl, _⟩ := h
    rfl
  · obtain ⟨d, N, rfl, hd, ⟨hn, hw, hl⟩, k⟩ := h
    have nd := sc_checked_parts.nd
    have hu := hu_of hr
    have hr1 := hr.mono (show 1 ≤ 3 by decide)
    refine ⟨_, PSs.nox (pss_cons (ps_if (pt_not (pt_val (pe_callB call_isi (by rfl) mI PyProof.Rows.Boot.«isinstance» (pa_cons (pv 0) (pa_cons (pe_bltn (v := .ty "dict") (by rfl) mD PyProof.Rows.Boot.«dict» rfl) pa_nil))))) (pss_one ps_never) pss_nil)
      (pss_cons (ps_lock (ps_for PassesOwn.never rfl (pi_items (pv 0)) (pg_tup rfl (pgs_cons (pg_name (i := 1) nd rfl (Or.inl rfl)) (pgs_cons (pg_name (i := 2) nd rfl (Or.inl rfl)) pgs_nil)))
        (pss_one (ps_if (PW.pt (pw_or (pt_not (pt_val (pe_cal W hr (pa_cons (pv 1) pa_nil)))) (pw_or1 (pt_not (pt_val (pe_cal I hr1 (pa_cons (pv 2) pa_nil))))))) (pss_one ps_never) pss_nil))))
      (pss_one (ps_ret (pe_dc (own := [("word", 1)]) (g := gName 1) rfl nd (pi_list (pe_callB (call_sortedD rfl) (by rfl) mS (by decide +kernel) (pa_cons (pv 0) pa_nil))) (blkOk_by (N := cpN) (sc := defScope s_checked_parts) (by decide +kernel))
        (fun _ _ _ _ _ => pg_name (i := 1) nd rfl (Or.inl rfl)) (fun _ _ _ _ _ => pts_one (pt_cmpR op_ne (pe_dget hu (pv 0) (pv 1) (fun _ _ => rfl)) pe_int (nomark _))) (fun _ _ _ _ _ => pv 1) (fun _ _ _ _ _ => pe_dget hu (pv 0) (pv 1) (fun _ _ => rfl))))))), ?_⟩
    refine ifs_of ⟨_, rfl, _, .ty "dict", .type "dict", .type "dict", true, rfl, .ty _, .base (.dK hd), kit_ty (by decide +kernel), _, rfl, iteF (nx_of ?_)⟩
    refine ⟨d, dI N, hd, True.intro, fun od => ?_⟩
    have el : (upd H d (.frz od (dI N))) d = some (.frz od (dI N)) := upd_same
    refine ⟨_, rfl, d, od, N.map kvi, rfl, el, ?_⟩
    refine for_it (walk_items (o := od) (d := d) (kvs := N.map kvi)) (fun i σ H' => Same (upd H d (.frz od (dI N))) H' ∧ ∃ y z, σ = [some (V.ref d), y, z]) ⟨fun _ _ e => e, none, none, rfl⟩ (fun i σ H' _ ⟨s2, _⟩ => s2 _ _ el) ?_ ?_
    · rintro i x σ H1 H2 hi ⟨s1, y, z, rfl⟩ hy
      obtain ⟨T, q, hq, rfl, hT, rfl⟩ := pair_kvi hi hy
      have hk : q.1 ∈ ks N := List.mem_map.mpr ⟨q, List.mem_of_getElem? hq, rfl⟩
      refine ⟨T, _, rfl, SqT.of upd_same, rfl, _, _, rfl, _, _, rfl, rfl, ?_⟩
      refine if1_of (or_of ⟨_, rfl, q.1, rfl, (hw _ hk).2, (hw _ hk).1, fun H3 s3 => ⟨_, rfl, iteF ⟨_, rfl, q.2, rfl, true, rfl, iteF ⟨s1.trans ((same_new hT).trans s3), _, _, rfl⟩⟩⟩⟩)
    · rintro σ H1 ⟨s1, y, z, rfl⟩
      refine ⟨s1 _ _ el, ?_⟩
      have s2 := same_unlock hd s1
      have hd2 := s2 _ _ hd
      generalize upd H1 d (dI N) = H2 at s2 hd2
      refine ⟨_, rfl, d, N.map kvi, ks N, rfl, .inl hd2, keys_kvi N, (by rw [ks_len]; omega), fun ys p pm so hp => ?_⟩
      refine ⟨p, rfl, ⟨_, SqL.of upd_same⟩, fun D hD => ?_⟩
      have s3 := s2.trans (same_new (o := .lst (ys.map V.str)) hp)
      have ep : (upd H2 p (.lst (ys.map V.str))) p = some (.lst (ys.map V.str)) := upd_same
      generalize upd H2 p (.lst (ys.map V.str)) = H3 at s3 ep hD
      have ny : ys.Nodup := pm.nodup_iff.mpr hn
      refine dc_it (walk_list (xs := ys.map V.str)) (fun i H' => Same H3 H' ∧ H' D = some (dI (lessL N (ys.take i)))) ⟨same_new hD, upd_same⟩ (fun i H' _ ⟨s4, _⟩ => SqL.of (s4 _ _ ep)) ?_ ?_
      · rintro i x Ha Hb hi ⟨s4, hdD⟩ ⟨e, hx⟩
        subst e
        rw [List.getElem?_map] at hx
        obtain ⟨x, ex, ey⟩ := Option.map_eq_some_iff.mp hx
        subst ey
        have hxk := pm.mem_iff.mp (List.mem_of_getElem? ex)
        have hdN := s4 _ _ (s3 _ _ hd)
        have dg := DGet.k (k := .inr x) hdN
        rw [valV_kvi, get?_in hxk] at dg
        refine ⟨rfl, test_of ⟨_, rfl, _, rfl, d, .int (get0 N x), rfl, dg, rfl, _, rfl, ite_of (fun hne => ?_) (fun he => ?_)⟩⟩
        · have hne' : get0 N x ≠ 0 := fun e => by
            rw [e] at hne
            cases hne
          refine ⟨_, rfl, _, rfl, _, rfl, d, .int (get0 N x), rfl, dg, _, .inr x, rfl, hdD, ?_, ?_, ?_⟩
          · have h1 : (lessL N (ys.take i)).length ≤ ys.length := by
              rw [← ks_len, ks_lessL]
              have := List.length_filter_le (fun x => decide (get0 N x ≠ 0)) (ys.take i)
              rw [List.length_take] at this
              omega
            have h2 := pm.length_eq
            rw [ks_len] at h2
            rw [List.length_map, sizeLine_eq]
            omega
          · intro c o e
            rw [upd_ne (ne_of_none e hD)]
            exact s4 _ _ e
          · rw [upd_same, lessL_take ex, if_pos hne', putK_new _ _ _ ?_]
            · rfl
            · rw [ks_lessL]
              intro hm
              have h0 := (List.mem_filter.mp hm).1
              have h1 : (ys.take (i + 1)).Nodup := List.Nodup.sublist (List.take_sublist _ _) ny
              rw [List.take_succ, ex, List.nodup_append] at h1
              exact h1.2.2 x h0 x (List.mem_singleton.mpr rfl) rfl
        · have he' : get0 N x = 0 := by
            have h1 : (!decide (V.int (get0 N x) = V.int 0)) = false := he
            have h2 : decide (V.int (get0 N x) = V.int 0) = true := by simpa using h1
            exact V.int.inj (of_decide_eq_true h2)
          refine ⟨s4, ?_⟩
          rw [lessL_take ex, if_neg (fun h => h he'), List.append_nil]
          exact hdD
      · rintro H4 ⟨s4, hdD⟩
        rw [List.length_map, List.take_length] at hdD
        exact k D _ H4 (free_same s3 hD) (s3.trans s4) hdD (lessL_cn hn pm so) (lessL_get hn pm) (fun x => lessL_sub pm) (lessL_len pm)
/-! ### forms -/
structure FormC (K : PySem.W.Frag) (C : Addr) : Prop where
  cl : Cls K C
  nP : NoAttr K C "_parts"
  nN : NoAttr K C "_number"
  ca : PySem.W.findIn K (.ref C) "__class__" = some (some (.builtin "object.__class__"))
  sg : PySem.W.specialIn K (.builtin "object.__class__") "__get__" = some (some (.builtin "getset_descriptor.__get__"))
  tk : PySem.W.takesIn K (.builtin "object.__class__") = some true
  ob : PySem.W.mroIn K C (.type "object") = some true
def FormX (H : Hp) (C t : Addr) (A : NI) (n : Int) (dx d : Addr) : Prop := H t = some (.ins C dx [("_parts", .ref d), ("_number", .int n)]) ∧ H d = some (dI A)
def FormAt (H : Hp) (C t : Addr) (A : NI) (n : Int) : Prop := ∃ dx d, FormX H C t A n dx d
theorem FormX.same {H H' : Hp} {C t : Addr} {A : NI} {n : Int} {dx d : Addr} (h : FormX H C t A n dx d) (k : Same H H') : FormX H' C t A n dx d := ⟨k _ _ h.1, k _ _ h.2⟩
theorem FormAt.same {H H' : Hp} {C t : Addr} {A : NI} {n : Int} (h : FormAt H C t A n) (k : Same H H') : FormAt H' C t A n := let ⟨dx, d, x⟩ := h; ⟨dx, d, x.same k⟩
/-- parts of a form for what N tells -/
structure Prt (A N : NI) : Prop where
  cn : Cn A
  g : ∀ x, get0 A x = get0 N x
  s : ∀ x ∈ ks A, x ∈ ks N
  l : A.length ≤ N.length
theorem Prt.ok {A N : NI} (h : Prt A N) (o : okW N) : okW A := ⟨h.cn.nd, fun x hx => o.2.1 x (h.s x hx), Nat.le_trans h.l o.2.2⟩
def sp_finit (K : PySem.W.Frag) (C : Addr) : Sp := fun vs H Q _ => ∃ (t dx d : Addr) (N : NI) (n : Int), vs = [.ref t, .ref d, .int n] ∧ H t = some (.ins C dx []) ∧ H d = some (dI N) ∧ okW N ∧
  ∀ (H' : Hp) (d1 : Addr) (A : NI), Keep t H H' → H d1 = none → FormX H' C t A n dx d1 → Prt A N → Q .non H'
theorem ok_finit {dvs : List V} (F : FunD K "__init__" "Form.__init__" (defArgs s_Form___init__) (defBody s_Form___init__) (defScope s_Form___init__) dvs [] f fd) (T : FormC K C) (Cp : Cal P w K mg base 4 "checked_parts" [] sp_cparts) (I : Cal P w K mg base 1 "is_integer" [] (sp_isint K)) :
    FnOk P w K mg base CX0 5 f fd ["self", "parts", "number"] (sp_finit K C) := by
  refine F.ok sc_Form___init__ (fun vs H Q E h => ?_) (fun cdv A outer s H vs Q E hr h => ?_)
  · obtain ⟨t, dx, d, N, n, rfl, _⟩ := h
    rfl
  · obtain ⟨t, dx, d, N, n, rfl, ht, hd, hN, k⟩ := h
    have hr1 := hr.mono (show 1 ≤ 4 by decide)
    refine ⟨_, PSs.nox (pss_cons (ps_fld (pv 0) (pe_cal Cp hr (pa_cons (pv 1) pa_nil)) rfl)
      (pss_cons (ps_if (pt_not (pt_val (pe_cal I hr1 (pa_cons (pv 2) pa_nil)))) (pss_one ps_never) pss_nil) (pss_one (ps_fld (pv 0) (pv 2) rfl)))), ?_⟩
    refine ⟨_, rfl, d, N, rfl, hd, hN, fun d1 L H1 hd1 s1 e1 cn g0 sb ll => ?_⟩
    refine ⟨_, rfl, t, C, dx, [], rfl, s1 _ _ ht, T.cl, T.nP, by decide, ?_⟩
    have nt : d1 ≠ t := fun e => by rw [e, ht] at hd1; cases hd1
    refine nxs_of (ifs_of ⟨_, rfl, n, rfl, true, rfl, iteF (nx_of ?_)⟩)
    refine ⟨_, rfl, _, rfl, t, C, dx, _, rfl, upd_same, T.cl, T.nN, (by show 1 < 1000; decide), ?_⟩
    refine k _ d1 L (fun c o n e => ?_) hd1 ⟨upd_same, ?_⟩ ⟨cn, g0, sb, ll⟩
    · rw [upd_ne n, upd_ne n]
      exact s1 _ _ e
    · rw [upd_ne nt, upd_ne nt]
      exact e1
structure FormF (P : Program) (w : World) (K : PySem.W.Frag) (mg : Str → Option Value) (base : Heap) (C : Addr) : Prop where
  g : mg "Form" = some (.ref C)
  T : FormC K C
  ex : ∃ (fI : Addr) (fdI : FuncData), Mk K C fI ∧ FnOk P w K mg base CX0 5 fI fdI ["self", "parts", "number"] (sp_finit K C) ∧ Binds K fdI ["self", "parts", "number"] [] ∧ ∃ t : Tok, Binds K fdI ["self", "parts", "number"] [.int 0 t]
theorem fmake_k {H1 : Hp} {Q : VK} {E : XK} {d : Addr} {N : NI} {n : Int} (hd : H1 d = some (dI N)) (o : okW N) (k : ∀ x dx d1 A H', H1 x = none → H1 d1 = none → Same H1 H' → FormX H' C x A n dx d1 → Prt A N → Q (.ref x) H') :
    ∀ x dx, H1 x = none → H1 dx = none → dx ≠ x → sp_finit K C [.ref x, .ref d, .int n] (upd (upd H1 dx (.own x)) x (.ins C dx [])) (fun v H2 => v = .non ∧ Q (.ref x) H2) E := by
  intro x dx hx hdx ne
  have s0 : Same H1 (upd (upd H1 dx (.own x)) x (.ins C dx [])) := fun c o e => by
    rw [upd_ne (ne_of_none e hx), upd_ne (ne_of_none e hdx)]
    exact e
  exact ⟨x, dx, d, N, n, rfl, upd_same, s0 _ _ hd, o, fun H' d1 A kp f1 fx pr => ⟨rfl, k x dx d1 A H' hx (free_same s0 f1) (fun c o e => kp c o (ne_of_none e hx) (s0 c o e)) fx pr⟩⟩
section
variable {X : Cx} {e1 e2 : Expr} {t : TA} {p pos : Pos}
theorem pe_form2 (h : FormF X.prog X.w X.K X.mg X.base C) (hr : Room 6 X.A) (ha : PA X [e1, e2] t) (hg : Gl X "Form" := by rfl)
    (he : starEach [e1, e2] X.env = (false, eval e1 X.env) :: starEach [e2] X.env := by rfl) (hpl : (backTo pos (starEach [e2] X.env)).any (·.1) = false := by rfl) :
    PE X (.Call (.Name "Form" p) [e1, e2] [] pos) (tMake C (sp_finit X.K C) [] E0 t) := by
  obtain ⟨fI, fdI, M, F, b, _⟩ := h.ex
  exact pe_make M F hr hg h.g b .nil pass0 ha (by decide) he hpl
theorem pe_form1 (h : FormF X.prog X.w X.K X.mg X.base C) (hr : Room 6 X.A) (ha : PA X [e1] t) (hg : Gl X "Form" := by rfl)
    (he : starEach [e1] X.env = (false, eval e1 X.env) :: starEach [] X.env := by rfl) (hpl : (backTo pos (starEach [] X.env)).any (·.1) = false := by rfl) :
    PE X (.Call (.Name "Form" p) [e1] [] pos) (tMake C (sp_finit X.K C) [.int 0] E0 t) := by
  obtain ⟨fI, fdI, M, F, _, tk, b⟩ := h.ex
  exact pe_make M F hr hg h.g b (show Vals [V.int 0] [Value.int 0 tk] from .cons ⟨_, rfl⟩ .nil) pass0 ha (by decide) he hpl
end
end
end Lw
/-! ## SlExc -/
set_option Elab.async false
set_option linter.all false
set_option maxRecDepth 100000
set_option maxHeartbeats 4000000
namespace Sl
open PySem PySem.Spec PyProof.Rows L2
section
variable {X : Cx} {CX : CXT} {k : Nat} {f D fI : Addr} {fd : FuncData} {ps : List Str} {sp : Sp} {ds : List Value} {dvs : List V} {E : XK} {x m : Str} {mc : Value} {e : Expr} {es : List Expr} {p p1 p2 pos : Pos} {t : TA}
/-- D.m(e, ..): a def read off an own class -/
theorem pe_clsfn {pl : Sem Bool} (hg : Gl X x) (hm : X.mg x = some (.ref D)) (r : ClX.CRead X.K D mc) (kv : PySem.W.findCls X.K (.ref D) mc m = some (.val (.ref f))) (hk : PySem.W.keepIn X.K (.ref f) = true)
    (F : FnOk X.prog X.w X.K X.mg X.base CX k f fd ps sp) (hr : Room k X.A) (hb : Binds X.K fd ps ds) (hd : Vals dvs ds) (hx : Passes CX X E) (ha : PA X (e :: es) t)
    (hc : eval (.Call (.Attribute (.Name x p1) m p2) (e :: es) [] pos) X.env = (do
      let ov ← eval (.Name x p1) X.env
      standAt p2.atName
      let (f, first) ← holding [ov] (getMethod ov m pl)
      callWith pos f first (backTo pos (starEach (e :: es) X.env)) (backToKw pos (keywordEach [] X.env))) := by rfl)
    (hdb : (x == ("__debug__" : Str)) = false := by decide)
    (he : starEach (e :: es) X.env = (false, eval e X.env) :: starEach es X.env := by rfl) (hpl : (backTo pos (starEach es X.env)).any (·.1) = false := by rfl) :
    PE X (.Call (.Attribute (.Name x p1) m p2) (e :: es) [] pos) (tCall sp dvs E t) := by
  refine ⟨fun pins s σ H Q I h => ?_⟩
  refine PySem.W.methodCall_KW (ld_glob I hg hm ?_ hdb) hc
  refine PySem.W.method_cls I.kIn r.ga (ClX.getcval_ok (v := .ref f) I r ⟨kv, rfl⟩ fun s1 I1 => ?_)
  refine PySem.W.callWith_K (h₀ := X.base) I1.ok.mod.kin hk (thn (ha.run pos pins s1 σ H _ I1 h) fun us s2 ⟨vs, H2, I2, r2, q⟩ => ⟨I2.kIn, ?_⟩) he hpl
  exact run_fn F hr hb hd hx I2 r2 q
/-- C(e, ..), an own exception, as a value -/
def tExc (C : Addr) (sp : Sp) (dvs : List V) (ta : TA) : TE := fun σ H Q => ta σ H fun vs H1 => vs.length ≤ 1000 ∧ ∀ a, H1 a = none → sp (.ref a :: (vs ++ dvs)) (upd H1 a (exo a C none)) (fun v H2 => v = .non ∧ Q (.ref a) H2) (fun _ _ _ => False)
theorem run_exc {C : Addr} {pins : List (Addr × Obj)} {σ : L2.St} {H1 : Hp} {s1 : Shared} {Q : VK} {us : List Value} {vs : List V} (T : OexC X.K C) (iC : PySem.W.findIn X.K (.ref C) "__init__" = some (some (.ref fI))) (tI : PySem.W.typeIn X.K (.ref fI) = some (.type "function"))
    (F1 : FnOk X.prog X.w X.K X.mg X.base CX k fI fd ps sp) (hr : Room (k + 1) X.A) (hb : Binds X.K fd ps ds) (hd : Vals dvs ds) (hx : Passes CX X (fun _ _ _ => False)) (I1 : Inv X pins σ H1 s1) (r1 : Vals vs us) (hz : vs.length ≤ 1000)
    (q1 : ∀ a, H1 a = none → sp (.ref a :: (vs ++ dvs)) (upd H1 a (exo a C none)) (fun v H2 => v = .non ∧ Q (.ref a) H2) (fun _ _ _ => False)) :
    wpAny (model X.prog X.w) X.A (call (.ref C) us) (EP X pins σ Q) X.xe s1 := by
  obtain ⟨nm, q, N, bs, bm, sn, sub, ab, col, dd, k0, k1, k2, k3, k5, hC, hbm⟩ := T.cls
  obtain ⟨hp, g, dr, tk, os⟩ := s1
  have hsz : hp.objs.size ≤ hp.objs.size + 1 := Nat.le_succ _
  have hn : H1 (hp.objs.size + 1) = none := I1.hok.fresh hsz
  have hq := q1 (hp.objs.size + 1) hn
  have kk : ∀ b o, hp.get? b = some o → ((hp.push (PySem.W.kdv_tup us)).push (PySem.HandSPX.excO C hp.objs.size)).get? b = some o := fun b o e => Heap.get?_push_of_some _ (Heap.get?_push_of_some _ e)
  have hget : ((hp.push (PySem.W.kdv_tup us)).push (PySem.HandSPX.excO C hp.objs.size)).get? (hp.objs.size + 1) = some (PySem.HandSPX.excO C hp.objs.size) := by heap_get
  have I2 : Inv X pins σ (upd H1 (hp.objs.size + 1) (exo (hp.objs.size + 1) C none)) ⟨(hp.push (PySem.W.kdv_tup us)).push (PySem.HandSPX.excO C hp.objs.size), g, dr, tk, os⟩ :=
    I1.laid (t' := tk) (a := hp.objs.size + 1) (o := exo (hp.objs.size + 1) C none) kk hsz (exo_ok hget)
  have r2 : Vals (V.ref (hp.objs.size + 1) :: (vs ++ dvs)) (Value.ref (hp.objs.size + 1) :: (us ++ ds)) := .cons rfl (r1.append hd)
  have hl : (Value.ref (hp.objs.size + 1) :: us ++ ds).length = ps.length := by
    have e := r2.length
    rw [F1.len _ _ _ _ hq] at e
    exact e.symm
  have hus : us.length ≤ sizeLine := by
    rw [← Paired.length r1, sizeLine_eq]
    omega
  refine wpAny_call (PySem.HandSPX.call_own F.excBase_ValueError (fun Y => PySem.HandSPX.refsVE_contains Y bm hbm) (I1.kIn _ _ hC) (PySem.W.looks_findIn I1.kIn iC) (fun self => PySem.W.bind_fn I1.kIn self tI) hus
    (codeAny_mono (F1.run _ X.stack _ _ ⟨Value.ref (hp.objs.size + 1) :: us, []⟩ (Value.ref (hp.objs.size + 1) :: (us ++ ds)) _ _ (fun _ _ _ => False) (hr.make C us []) (I2.env0.make C us []) (hb _ (Value.ref (hp.objs.size + 1) :: us) I2.kIn hl) r2 hq) fun r s' hq' => ?_))
  cases r with
  | error er => exact hx pins σ _ _ er s' I2 hq'
  | ok fl =>
    cases fl with
    | ret u =>
      obtain ⟨v, H3, I3, rv, ev, q3⟩ := I2.after hq'
      subst ev
      exact ⟨rv, ⟨V.ref (hp.objs.size + 1), H3, I3, rfl, q3⟩⟩
    | next => exact False.elim hq'
    | brk => exact False.elim hq'
    | cont => exact False.elim hq'
theorem pe_exc {C : Addr} (T : OexC X.K C) (iC : PySem.W.findIn X.K (.ref C) "__init__" = some (some (.ref fI))) (tI : PySem.W.typeIn X.K (.ref fI) = some (.type "function"))
    (F1 : FnOk X.prog X.w X.K X.mg X.base CX k fI fd ps sp) (hr : Room (k + 1) X.A) (hb : Binds X.K fd ps ds) (hd : Vals dvs ds) (hx : Passes CX X (fun _ _ _ => False)) (hg : Gl X x) (hm : X.mg x = some (.ref C)) (ha : PA X (e :: es) t)
    (hdb : (x == ("__debug__" : Str)) = false := by decide) (he : starEach (e :: es) X.env = (false, eval e X.env) :: starEach es X.env := by rfl) (hpl : (backTo pos (starEach es X.env)).any (·.1) = false := by rfl) :
    PE X (.Call (.Name x p) (e :: es) [] pos) (tExc C sp dvs t) := by
  refine ⟨fun pins s σ H Q I h => ?_⟩
  refine wpAny_Call_Name_kw (ld_glob I hg hm ?_ hdb)
  refine PySem.W.callWith_K (h₀ := X.base) I.ok.mod.kin T.kC (thn (ha.run pos pins s σ H _ I h) fun us s1 ⟨vs, H1, I1, r1, hz, q1⟩ => ⟨I1.kIn, ?_⟩) he hpl
  exact run_exc T iC tI F1 hr hb hd hx I1 r1 hz q1
theorem pe_exc0 {C : Addr} (T : OexC X.K C) (iC : PySem.W.findIn X.K (.ref C) "__init__" = some (some (.ref fI))) (tI : PySem.W.typeIn X.K (.ref fI) = some (.type "function"))
    (F1 : FnOk X.prog X.w X.K X.mg X.base CX k fI fd ps sp) (hr : Room (k + 1) X.A) (hb : Binds X.K fd ps ds) (hd : Vals dvs ds) (hx : Passes CX X (fun _ _ _ => False)) (hg : Gl X x) (hm : X.mg x = some (.ref C))
    (hdb : (x == ("__debug__" : Str)) = false := by decide) : PE X (.Call (.Name x p) [] [] pos) (tExc C sp dvs tNil) := by
  refine ⟨fun pins s σ H Q I h => ?_⟩
  refine wpAny_Call_Name_kw (ld_glob I hg hm ?_ hdb)
  obtain ⟨hz, q1⟩ := h
  exact PySem.W.callWith_K0 I.kIn T.kC (run_exc (us := []) T iC tI F1 hr hb hd hx I .nil hz q1)
end
/-! ### an own exception that is held: its fields, its class -/
/-- what the class at D must say of reading an instance's attributes -/
structure ExR (K : PySem.W.Frag) (D : Addr) : Prop where
  ga : PySem.W.findIn K (.ref D) "__getattribute__" = some (some (.builtin "BaseException.__getattribute__"))
  gg : PySem.W.findIn K (.ref D) "__getattr__" = some none
  sb : PySem.W.subIn K (.ref D) (.type "BaseException") = some true
  hd : PySem.W.hasDictIn K D = true
  cl : PySem.W.findIn K (.ref D) "__class__" = some (some (.builtin "object.__class__"))
  gt : PySem.W.specialIn K (.builtin "object.__class__") "__get__" = some (some (.builtin "getset_descriptor.__get__"))
  tk : PySem.W.takesIn K (.builtin "object.__class__") = some true
  ob : PySem.W.mroIn K D (.type "object") = some true
def tExF (K : PySem.W.Frag) (f : Str) (te : TE) : TE := fun σ H Q => te σ H fun x H1 => ∃ (a D dx : Addr) (fs : List (Str × V)) (v : V), x = .ref a ∧ H1 a = some (exo a D (some dx)) ∧ H1 dx = some (exd dx fs) ∧ ExR K D ∧ PySem.W.findIn K (.ref D) f = some none ∧ fs.lookup f = some v ∧ Q v H1
section
variable {X : Cx} {f : Str} {e : Expr} {te : TE} {pos : Pos}
theorem inst_of {pins : List (Addr × Obj)} {σ : L2.St} {H : Hp} {s : Shared} {a D dx : Addr} {fs : List (Str × V)} (I : Inv X pins σ H s) (ha : H a = some (exo a D (some dx))) (hx : H dx = some (exd dx fs)) :
    ∃ (ox od : Obj) (mA : Str → Option Value), PySem.W.InstAt s.heap a ox D (some od) ∧ (∀ g, PySem.W.lookIn g od = some (mA g)) ∧ ∀ g, RelO (fs.lookup g) (mA g) := by
  obtain ⟨t1, ho⟩ := exo_at I.hok ha
  obtain ⟨mA, hn, hr⟩ := exd_at I.hok hx
  obtain ⟨od, hod, hl⟩ := lookIn_ns hn
  exact ⟨_, od, mA, ⟨ho, rfl, rfl, hod⟩, hl, hr⟩
theorem pe_exf (he : PE X e te) (hb : attributeBase e f X.env (eval e X.env) = eval e X.env := by rfl) : PE X (.Attribute e f pos) (tExF X.K f te) := by
  refine ⟨fun pins s σ H Q I h => attr_of hb (thn (he.run pins s σ H _ I h) fun u s1 hh => ?_)⟩
  obtain ⟨x, H1, I1, rx, a, D, dx, fs, v, rfl, ha, hx, T, nf, lf, q⟩ := hh
  cases rx
  obtain ⟨ox, od, mA, J, hl, hr⟩ := inst_of I1 ha hx
  obtain ⟨u, hu, ru⟩ := RelO.some_of (v := v) (o := mA f) (by rw [← lf]; exact hr f)
  exact HandSPX.exc_get I1.kIn J T.ga T.gg T.sb (PySem.W.findObj_own T.hd nf rfl (by rw [hl, hu])) (handed_of ru) ⟨v, H1, I1.tok _, ru, q⟩
end
/-- e.__class__ of such an instance -/
theorem class_of {prog : Program} {w : World} {A : Around} {E : Value → Shared → Prop} {K : PySem.W.Frag} {x D : Addr} {ox : Obj} {od : Option Obj} {hp : Heap} {gs : Array GenState} {dr : Drawn} {t : Nat} {os : OsState} {Q : Option Value → Shared → Prop} (T : ExR K D) (X : K.In hp) (I : PySem.W.InstAt hp x ox D od)
    (q : Q (some (.ref D)) ⟨hp, gs, dr, t + 1, os⟩) : wpAny (model prog w) A (getAttr? (.ref x) "__class__") Q E ⟨hp, gs, dr, t, os⟩ := by
  have found : PySem.W.findObj K D od "__class__" = some (.bind (.builtin "getset_descriptor.__get__") (.builtin "object.__class__")) := by
    obtain ⟨cd, hc, _⟩ := PySem.W.any_some T.hd
    unfold PySem.W.findObj
    rw [hc, Option.bind_some, T.cl, Option.bind_some]
    simp [T.gt, T.tk]
  have lT := I.type (M := model prog w)
  have lG := PySem.W.looks_findIn (M := model prog w) X T.ga
  have lF := PySem.W.looks_find (M := model prog w) X I found
  have isB : PySem.W.Looks (model prog w) hp (isInstance (.ref x) (.type "BaseException")) true := lT.andThen (PySem.W.looks_subIn X T.sb)
  have other : (Value.builtin "BaseException.__getattribute__" == Value.builtin "object.__getattribute__") = false := by decide +kernel
  -- the look for the hook, then BaseException.__getattribute__ itself
  have inner : wpAny (model prog w) A.in1 (Builtin.«object.__getattribute__» ⟨[.ref x, .str "__class__" t], []⟩) (fun fin s' => fin = .done (.ret (.ref D)) ∧ s' = ⟨hp, gs, dr, t + 1, os⟩) (fun _ _ => False) ⟨hp, gs, dr, t + 1, os⟩ := by
    unfold Builtin.«object.__getattribute__»
    refine wpAny_bind (wpAny_of_eq (a := ((Value.ref x : Value), [Value.str "__class__" t])) (by first | rfl | (simp only [slotArgs]; rfl)) (wpAny_bind (wpAny_pure (wpAny_bind (lT.at (wpAny_bind (lF.at ?_)))))))
    show wpAny _ _ (holding [Value.builtin "object.__class__"] (call (.builtin "getset_descriptor.__get__") [.builtin "object.__class__", .ref x, .ref D]) >>= ret) _ _ _
    refine wpAny_bind (wpAny_holding (wpAny_call (PySem.W.class_get (s := ⟨hp, gs, dr, t + 1, os⟩) (ox := ox) (od := od) X I T.ob ?_)))
    exact wpAny_pure ⟨rfl, rfl⟩
  unfold getAttr? getAttrBy? getAttrBy
  refine wpAny_bind (wpAny_mkText (wpAny_bind (wpAny_attempt (wpAny_holding (wpAny_bind (lT.at (wpAny_bind (lG.at ?_))))))))
  have c1 : (onTheHeap (Value.ref D) && Value.builtin "BaseException.__getattribute__" == Value.builtin "object.__getattribute__") = false := by
    rw [other]
    rfl
  show wpAny _ _ (if (onTheHeap (Value.ref D) && Value.builtin "BaseException.__getattribute__" == Value.builtin "object.__getattribute__") = true then _ else _) _ _ _
  rw [c1, if_neg Bool.false_ne_true]
  unfold getAttrByItsOwn hookBefore
  refine wpAny_bind ?_
  rw [if_pos (show onTheHeap (Value.ref D) = true from rfl)]
  refine (PySem.W.looks_findIn (M := model prog w) X T.gg).at (wpAny_bind (wpAny_attempt (wpAny_holding ?_)))
  unfold callGetattribute
  rw [show (false && onTheHeap (Value.builtin "BaseException.__getattribute__")) = false from rfl, if_neg Bool.false_ne_true]
  unfold boundAndCalled
  rw [PySem.F.excAttr_ValueError.ga.bind (.ref x)]
  refine wpAny_bind (wpAny_pure ?_)
  show wpAny _ _ (call (.builtin "BaseException.__getattribute__") [.ref x, .str "__class__" t]) _ _ _
  refine wpAny_call (codeAny_call_builtin PySem.F.excAttr_ValueError.ga.plain PySem.F.entry_bexc_ga ?_)
  refine @PySem.W.check_slot (model prog w) _ _ ⟨hp, gs, dr, t + 1, os⟩ "BaseException.__getattribute__" "BaseException" "__getattribute__" (.ref x) [.str "__class__" t] [] _ (by decide +kernel) (by decide +kernel) isB (PySem.F.args_bexc_ga (.ref x) (.str "__class__" t)) ?_
  refine wpAny_mono inner (fun fin s' ⟨e1, e2⟩ => ?_) fun _ _ z => z.elim
  subst e1 e2
  show wpAny _ _ (handedOut (.ref D)) _ _ _
  rw [PySem.W.handedOut_of (v := .ref D) rfl]
  first
    | exact wpAny_pure (wpAny_pure q)
    | exact wpAny_pure q
    | exact wpAny_pure (wpAny_bind (wpAny_pure (wpAny_pure q)))
theorem kitx_exo {K : PySem.W.Frag} {x D : Addr} {ox : Obj} {od : Option Obj} (T : ExR K D) : PySem.W.KitX K (.ref x) (.ref D) (fun h => PySem.W.InstAt h x ox D od) where
  ty := fun _ _ _ I => I.type
  it := fun M h X _ => by
    obtain ⟨cd, hc, _⟩ := PySem.W.any_some T.hd
    unfold PySem.W.clsIn at hc
    split at hc
    · rename_i oc dd cd' sl ho
      intro A1 Q1 E1 s1 kp q
      unfold isType loadHead
      exact wpAny_bind (wpAny_loadPart (kp _ _ (X _ _ ho)) (wpAny_pure q))
    · cases hc
  ne := fun h tp dd its n sl X htp => by
    cases hb : (Value.ref D == Value.ref tp) with
    | false => rfl
    | true =>
      have e : D = tp := Value.ref.inj (beq_iff_eq.mp hb)
      subst e
      obtain ⟨cd, hc, _⟩ := PySem.W.any_some T.hd
      unfold PySem.W.clsIn at hc
      split at hc
      · rename_i oc dd2 cd' sl2 ho
        have z := X _ _ ho
        rw [htp] at z
        cases z
      · cases hc
  ca := fun {prog w A E Q s} X I q => by
    obtain ⟨hp, gs, dr, t, os⟩ := s
    exact class_of T X I q
/-- a made exception of the class at D: with its dict at some dx, or without one -/
def ExcAt (H : Hp) (a D : Addr) : Prop := H a = some (exo a D none) ∨ ∃ (dx : Addr) (fs : List (Str × V)), H a = some (exo a D (some dx)) ∧ H dx = some (exd dx fs)
def rIsX (K : PySem.W.Frag) : List V → Hp → VK → Prop := fun xs H Q => ∃ (a D : Addr) (c : V) (cv : Value) (b : Bool), xs = [.ref a, c] ∧ ExcAt H a D ∧ ExR K D ∧ ClsV c cv ∧ PySem.W.kitOne K (.ref D) cv = some b ∧ Q (.bl b) H
theorem call_isx {X : Cx} : CallR X (.builtin "isinstance") (rIsX X.K) := by
  intro pins s σ H xs us Q I r h
  obtain ⟨a, D, c, cv, b, rfl, ha, T, hc, hk, q⟩ := h
  obtain ⟨u1, u2, rfl, r1, r2⟩ := vals2 r
  cases (show u1 = Value.ref a from r1)
  have e := hc.eq r2
  subst e
  have J : ∃ (ox : Obj) (od : Option Obj), PySem.W.InstAt s.heap a ox D od := by
    rcases ha with ha | ⟨dx, fs, ha, hx⟩
    · obtain ⟨t1, ho⟩ := exo_at I.hok ha
      exact ⟨_, none, ho, rfl, rfl, trivial⟩
    · obtain ⟨ox, od, _, J, _⟩ := inst_of I ha hx
      exact ⟨ox, some od, J⟩
  obtain ⟨ox, od, J⟩ := J
  exact PySem.W.kia_one (kitx_exo (ox := ox) (od := od) T) I.kIn J hk (fun z => nomatch z) fun tk => ⟨.bl b, H, I.tok tk, rfl, q⟩
end Sl
/-! ## SlKw -/
set_option Elab.async false
set_option linter.all false
set_option maxRecDepth 100000
set_option maxHeartbeats 4000000
namespace Sl
open PySem PySem.Spec PyProof.Rows L2
section
variable {prog : Program} {w : World} {A : Around} {E : Value → Shared → Prop} {R : Result → Shared → Prop} {h : Heap} {g : Array GenState} {d : Drawn} {t : Nat} {os : OsState}
variable {nm q : Str} {C N : Addr} {bs bm bmB : List Value} {hdct : Bool} {sn : List Str} {sub : List Value} {ab : Bool} {col : Option Bool} {dd : Option Addr} {k0 k1 k2 k3 k5 : Option Value} {B newId initId : String}
theorem kw_tc {kw : List (Str × Value)} {Q : Unit → Shared → Prop} (hC : h.get? C = some (excClassObj nm q C N bs bm hdct sn sub ab col dd k0 k1 k2 k3 k5 newId)) (hq : Q () ⟨h, g, d, t, os⟩) :
    wpAny (model prog w) A (checkBuiltinCall "type.__call__" ⟨[.ref C], kw⟩) Q E ⟨h, g, d, t, os⟩ := by
  have f := tc_sub
  have ht : (⟨h, g, d, t, os⟩ : Shared).TypeIs (.ref C) "type" := ⟨_, hC, rfl⟩
  simp only [checkBuiltinCall, tc_kind, tc_split]
  repeat (any_goals (first | assumption | with_reducible refine wpAny_loadPart_at hC ?_ | with_reducible refine wpAny_onRaise ?_ | with_reducible refine wpAny_map ?_ | wp_step))
theorem kw_check_new (F : ExcBaseFacts B newId initId bmB) (hT : ∀ Y : String, bm.contains (.type Y) = bmB.contains (.type Y)) {kw : List (Str × Value)} {Q : Unit → Shared → Prop}
    (hC : h.get? C = some (excClassObj nm q C N bs bm hdct sn sub ab col dd k0 k1 k2 k3 k5 newId)) (hq : Q () ⟨h, g, d, t, os⟩) : wpAny (model prog w) A (checkBuiltinCall newId ⟨[.ref C], kw⟩) Q E ⟨h, g, d, t, os⟩ := by
  have isSub : (Value.ref C :: bm).contains (.type B) = true := by rw [List.contains_cons, hT, F.hasB, Bool.or_true]
  have noS := F.noStar
  simp only [checkBuiltinCall, F.newKind, F.newSplit, F.newRow]
  repeat (first | refine wpAny_loadPart_at hC ?_ | (refine wpAny_isSubtype_exc hC ?_; rw [isSub]) | refine wpAny_staticBase_exc hC ?_ | refine wpAny_madeBy_exc hC ?_ | simp only [bne_self_eq_false, Bool.false_eq_true, if_false] | wp_step)
  exact hq
theorem kw_new (F : ExcBaseFacts B newId initId bmB) (hT : ∀ Y : String, bm.contains (.type Y) = bmB.contains (.type Y)) {kw : List (Str × Value)}
    (hC : h.get? C = some (excClassObj nm q C N bs bm hdct sn sub ab col dd k0 k1 k2 k3 k5 newId))
    (hq : R (.ok (.ret (.ref (h.objs.size + 1)))) ⟨(h.push (PySem.W.kdv_tup [])).push (PySem.HandSPX.excO C h.objs.size), g, d, t, os⟩) : codeAny (model prog w) A (.builtin newId ⟨[.ref C], kw⟩) R ⟨h, g, d, t, os⟩ := by
  have ends := F.ends
  have c1 : (Value.ref C :: bm).contains (.type B) = true := by rw [List.contains_cons, hT, F.hasB, Bool.or_true]
  have c2 : (Value.ref C :: bm).contains (.type "AttributeError") = false := by rw [List.contains_cons, hT, F.noAttr]; rfl
  have c3 : (Value.ref C :: bm).contains (.type "NameError") = false := by rw [List.contains_cons, hT, F.noName]; rfl
  have small : ([] : List Value).length ≤ sizeLine := Nat.zero_le _
  refine codeAny_builtinAt F.entry ?_
  unfold Builtin.«BaseException.__new__»
  refine PySem.wpAt_bind ?_
  show PySem.wpAt _ _ _ (stack >>= _) _ _ _
  refine PySem.wpAt_bind (PySem.wpAt_stack fun p below => PySem.wpAt_of_wpAny ?_)
  wp_walk
  refine PySem.wpAt_of_wpAny ?_
  rw [F.owner]
  repeat (first | with_reducible refine wpAny_madeHere_exc F.canon hC ?_ | with_reducible refine wpAny_loadPart_at hC ?_ | (with_reducible refine wpAny_isSubtype_exc hC ?_; first | rw [c1] | rw [c2] | rw [c3]) | wp_step)
  show R _ _
  rw [Heap.size_push]
  exact hq
theorem kw_call (F : ExcBaseFacts B newId initId bmB) (hT : ∀ Y : String, bm.contains (.type Y) = bmB.contains (.type Y)) {kw : List (Str × Value)} {fI : Addr} {Q : Fin → Shared → Prop}
    (hC : h.get? C = some (excClassObj nm q C N bs bm hdct sn sub ab col dd k0 k1 k2 k3 k5 newId))
    (hi : PySem.W.Looks (model prog w) h (typeLookup (.ref C) "__init__") (some (.ref fI))) (hb : ∀ self, PySem.W.Looks (model prog w) h (bindSpecial (.ref fI) self) (.ref fI, [self]))
    (hq : codeAny (model prog w) A (.call (.ref fI) ⟨[.ref (h.objs.size + 1)], kw⟩)
      (fun r s' => match r with | .ok (.ret v) => v = .none ∧ Q (.done (.ret (.ref (h.objs.size + 1)))) s' | .ok _ => False | .error e => E e s')
      ⟨(h.push (PySem.W.kdv_tup [])).push (PySem.HandSPX.excO C h.objs.size), g, d, t, os⟩) :
    wpAny (model prog w) A (Builtin.«type.__call__» ⟨[.ref C], kw⟩) Q E ⟨h, g, d, t, os⟩ := by
  repeat (first | with_reducible refine wpAny_loadPart_at hC ?_ | with_reducible refine wpAny_madeBy_exc hC ?_ | wp_step)
  refine codeAny_call_builtin_code (Code.quiet_builtin _ F.quiet) (kw_check_new F hT hC ?_)
  refine kw_new F hT hC ?_
  show wpAny _ _ _ _ _ _
  have kp : ∀ b o, h.get? b = some o → ((h.push (PySem.W.kdv_tup [])).push (PySem.HandSPX.excO C h.objs.size)).get? b = some o := fun b o e => Heap.get?_push_of_some _ (Heap.get?_push_of_some _ e)
  have cC := kp _ _ hC
  have own : ((h.push (PySem.W.kdv_tup [])).push (PySem.HandSPX.excO C h.objs.size)).get? (h.objs.size + 1) = some (PySem.HandSPX.excO C h.objs.size) := by heap_get
  have self : (Value.ref C :: bm).contains (.ref C) = true := by simp
  unfold isInstance
  repeat (first | with_reducible refine wpAny_loadPart_at own ?_ | (with_reducible refine wpAny_isSubtype_exc cC ?_; rw [self]) | wp_step)
  show wpAny _ _ (typeLookup (.ref C) _) _ _ _
  refine (hi.keeps kp).at (wpAny_holding (wpAny_bind (((hb (.ref (h.objs.size + 1))).keeps kp).at ?_)))
  refine wpAny_bind (wpAny_call (codeAny_mono hq fun r s' z => ?_))
  rcases r with e | (v | _ | _ | _) <;> first | exact z | exact z.elim | skip
  obtain ⟨rfl, z⟩ := z
  first
    | exact wpAny_pure (wpAny_pure z)
    | (wp_walk; exact z)
end
section
variable {X : Cx} {CX : CXT} {k : Nat} {fI C : Addr} {fd : FuncData} {ps ks : List Str} {sp : Sp} {x : Str} {p pos : Pos} {kws : List Keyword} {tk : TA} {g : List Value → List Value → List Value} {gV : List V → List V → List V}
/-- C(k = v, ..), an own exception, as a value: keywords alone -/
def tExcK (C : Addr) (m : Nat) (sp : Sp) (gV : List V → List V → List V) (tk : TA) : TE := fun σ H Q => tk σ H fun zs H1 => zs.length = m ∧ ∀ a, H1 a = none → sp (gV [.ref a] zs) (upd H1 a (exo a C none)) (fun v H2 => v = .non ∧ Q (.ref a) H2) (fun _ _ _ => False)
theorem pe_excK (T : OexC X.K C) (iC : PySem.W.findIn X.K (.ref C) "__init__" = some (some (.ref fI))) (tI : PySem.W.typeIn X.K (.ref fI) = some (.type "function"))
    (F1 : FnOk X.prog X.w X.K X.mg X.base CX k fI fd ps sp) (hr : Room (k + 1) X.A) (hb : KBn X.K fd ps 1 ks g gV) (hx : Passes CX X (fun _ _ _ => False)) (hg : Gl X x) (hm : X.mg x = some (.ref C)) (hkw : PK X kws tk)
    (hall : (backToKw pos (keywordEach kws X.env)).all (·.1.isSome) = true := by rfl) (hks : (backToKw pos (keywordEach kws X.env)).filterMap (·.1) = ks := by rfl) (hdb : (x == ("__debug__" : Str)) = false := by decide)
    (hpl : ((backTo pos (starEach [] X.env)).any (·.1) || (backToKw pos (keywordEach kws X.env)).any (·.1.isNone)) = false := by rfl) :
    PE X (.Call (.Name x p) [] kws pos) (tExcK C ks.length sp gV tk) := by
  refine ⟨fun pins s σ H Q I h => ?_⟩
  refine wpAny_Call_Name_kw (ld_glob I hg hm ?_ hdb)
  refine PySem.W.callWith_KW0 (h₀ := X.base) I.ok.mod.kin T.kC hall (thn (hkw.run pos pins s σ H _ I h) fun ws s1 ⟨zs, H1, I1, rz, lz, q1⟩ => ⟨I1.kIn, ?_⟩) hpl
  rw [hks]
  obtain ⟨nm, q, N, bs, bm, sn, sub, ab, col, dd, k0, k1, k2, k3, k5, hC, hbm⟩ := T.cls
  obtain ⟨hp, gs, dr, tk', os⟩ := s1
  have hq := q1 (hp.objs.size + 1) (I1.hok.fresh (Nat.le_succ _))
  have stays : ∀ b o, hp.get? b = some o → ((hp.push (PySem.W.kdv_tup [])).push (PySem.HandSPX.excO C hp.objs.size)).get? b = some o := fun b o e => Heap.get?_push_of_some _ (Heap.get?_push_of_some _ e)
  have mine : ((hp.push (PySem.W.kdv_tup [])).push (PySem.HandSPX.excO C hp.objs.size)).get? (hp.objs.size + 1) = some (PySem.HandSPX.excO C hp.objs.size) := by heap_get
  have I2 := I1.laid (t' := tk') (a := hp.objs.size + 1) (o := exo (hp.objs.size + 1) C none) stays (Nat.le_succ _) (exo_ok mine)
  have r2 := hb.rel (vs := [V.ref (hp.objs.size + 1)]) (us := [Value.ref (hp.objs.size + 1)]) (.cons rfl .nil) rz
  have lw : ws.length = ks.length := rz.length.symm.trans lz
  have cTy : (⟨hp, gs, dr, tk', os⟩ : Shared).TypeIs (.ref C) "type" := ⟨_, I1.kIn _ _ hC, rfl⟩
  have f1 := PySem.tc_lookup
  have f2 := PySem.tc_bind (.ref C)
  refine wpAny_call (codeAny_of_tree ?_)
  show wpAny _ _ (callAny (.ref C) ⟨[], ks.zip ws⟩) _ _ _
  have hC' := I1.kIn _ _ hC
  repeat (any_goals (first | assumption | with_reducible refine wpAny_loadPart_at hC' ?_ | wp_step))
  refine ⟨rfl, ?_⟩
  refine codeAny_call_builtin_at (Code.quiet_builtin _ (by decide +kernel)) PySem.entry_typeCall (kw_tc hC' (kw_call F.excBase_ValueError (fun Y => PySem.HandSPX.refsVE_contains Y bm hbm) hC' (PySem.W.looks_findIn I1.kIn iC) (fun self => PySem.W.bind_fn I1.kIn self tI) ?_))
  refine codeAny_mono (F1.run _ X.stack _ _ ⟨[Value.ref (hp.objs.size + 1)], ks.zip ws⟩ (g [Value.ref (hp.objs.size + 1)] ws) _ _ (fun _ _ _ => False) (hr.make C [] (ks.zip ws)) (I2.env0.make C [] (ks.zip ws)) (hb.to _ [Value.ref (hp.objs.size + 1)] ws I2.kIn rfl lw) r2 hq) fun r s' hq' => ?_
  cases r with
  | error er => exact hx pins σ _ _ er s' I2 hq'
  | ok fl =>
    cases fl with
    | ret u =>
      obtain ⟨v, H3, I3, rv, ev, q3⟩ := I2.after hq'
      subst ev
      exact ⟨rv, ⟨V.ref (hp.objs.size + 1), H3, I3, rfl, q3⟩⟩
    | next => exact False.elim hq'
    | brk => exact False.elim hq'
    | cont => exact False.elim hq'
end
/-- keywords of a def without defaults: one positional value (self), the others by name in the parameters' order -/
theorem kbn_self {K : PySem.W.Frag} {x qual : Str} {params : Arguments} {body : List Stmt} {scope : Scope} {f : Addr} {fd : FuncData} {ps ks : List Str} (F : FunD K x qual params body scope [] [] f fd)
    (h : ∀ (kV doc pm : Value) (an : Option Addr) (cdv ct : Value) (us ws : List Value), us.length = 1 → ws.length = ks.length → bindArgs (PySem.W.fnOf x qual params body scope .none kV doc pm an cdv ct) ⟨us, ks.zip ws⟩ = pure (ps.zip (us ++ ws))) :
    KBn K fd ps 1 ks (fun us ws => us ++ ws) (fun vs zs => vs ++ zs) := by
  obtain ⟨oc, od, dV, kV, doc, pm, an, cdv, ct, osl, rfl, lk, hcd, hD, hK⟩ := F.ex
  rcases hD with ⟨_, rfl⟩ | ⟨e, _⟩
  · exact ⟨fun s us ws X l1 l2 => .of_eq (h kV doc pm an cdv ct us ws l1 l2), fun r1 r2 => r1.append r2⟩
  · exact absurd rfl e
end Sl
/-! ## SlHead -/
set_option Elab.async false
set_option linter.all false
set_option maxRecDepth 100000
set_option maxHeartbeats 4000000
/-! a head's Hook: the defs of the top, facts by names, and any further looks at the written part (the statics of C within) -/
namespace Sl
open PySem PySem.Spec PyProof.Rows L2 He
def asS (g : Addr → Option Obj) (n : Nat) : List Addr := PySem.cStatics :: He.asD g n
abbrev AlS : Type := He.AlD × Bool
def obsS (fa : List Fa) (fn : List DefD) (ex : List (PySem.W.Frag → Bool)) (K : PySem.W.Frag) : AlS := (obsD fa fn K, ex.all fun e => e K)
def obsSG (n : Nat) (fa : List Fa) (fn : List DefD) (ex : List (PySem.W.Frag → Bool)) (g : Addr → Option Obj) : AlS := obsS fa fn ex (frG g (asS g n))
def valS (fn : List DefD) : AlS := (valD fn, true)
def SaysS (fa : List Fa) (fn : List DefD) (ex : List (PySem.W.Frag → Bool)) (K : PySem.W.Frag) : Prop := obsS fa fn ex K = valS fn
def hookS (n : Nat) (fa : List Fa) (fn : List DefD) (ex : List (PySem.W.Frag → Bool)) : PySem.W.Hook where
  α := AlS
  obs := fun s => obsSG n fa fn ex s.heap.get?
  val := fun _ => valS fn
  says := fun _ h => ∃ K : PySem.W.Frag, K.In h ∧ SaysS fa fn ex K
  of := fun _ _ e => ⟨_, frG_in, e⟩
  keeps := fun _ _ _ ⟨K, hK, c⟩ k => ⟨K, PySem.W.Frag.In.keeps hK k, c⟩
theorem obsSG_eq {n : Nat} {fa : List Fa} {fn : List DefD} {ex : List (PySem.W.Frag → Bool)} {g : Addr → Option Obj} {s : Shared} (h : ∀ a, g a = s.heap.get? a) : obsSG n fa fn ex g = (hookS n fa fn ex).obs s := by
  have e : g = s.heap.get? := funext h
  rw [e] <;> rfl
theorem SaysS.d {fa : List Fa} {fn : List DefD} {ex : List (PySem.W.Frag → Bool)} {K : PySem.W.Frag} (c : SaysS fa fn ex K) : SaysD fa fn K := congrArg (fun z : AlS => z.1) c
theorem SaysS.x {fa : List Fa} {fn : List DefD} {ex : List (PySem.W.Frag → Bool)} {K : PySem.W.Frag} (c : SaysS fa fn ex K) (i : Nat) {e : PySem.W.Frag → Bool} (h : ex[i]? = some e := by rfl) : e K = true := by
  have c1 : (ex.all fun e => e K) = true := congrArg (fun z : AlS => z.2) c
  exact List.all_eq_true.mp c1 e (List.mem_of_getElem? h)
/-! ### an own exception's class -/
def oexB (K : PySem.W.Frag) (C : Addr) : Bool := match K.lookup C with
  | some ⟨.type t, _, .cls cd, sl⟩ => decide (t = "type") && (match cd.mro, sl.toList with
    | .ref C' :: bm, [_, _, _, _, some (.builtin n), _] => decide (C' = C) && (decide (n = "ValueError.__new__") && (!cd.hasDel && (cd.hasDict && PySem.HandSPX.refsVE bm)))
    | _, _ => false)
  | _ => false
theorem oexB_ok {K : PySem.W.Frag} {C : Addr} (h : oexB K C = true) : ∃ nm q N bs bm sn sub ab col dd k0 k1 k2 k3 k5, K.lookup C = some (excClassObj nm q C N bs bm true sn sub ab col dd k0 k1 k2 k3 k5 "ValueError.__new__") ∧ PySem.HandSPX.refsVE bm = true := by
  unfold oexB at h
  split at h
  · rename_i t dd cd sl ho
    obtain ⟨h1, h2⟩ := ba h
    have e1 : t = "type" := of_decide_eq_true h1
    subst e1
    split at h2
    · rename_i C' bm k0 k1 k2 k3 n k5 hm hs
      obtain ⟨a1, h3⟩ := ba h2
      obtain ⟨a2, h4⟩ := ba h3
      obtain ⟨a3, h5⟩ := ba h4
      obtain ⟨a4, a5⟩ := ba h5
      have e2 : C' = C := of_decide_eq_true a1
      have e3 : n = "ValueError.__new__" := of_decide_eq_true a2
      subst e2 e3
      obtain ⟨nm, bs, mro, ns, qn, hdct, sn, sub, ab, col, hdel⟩ := cd
      have e4 : mro = .ref C' :: bm := hm
      have e5 : hdct = true := a4
      have e6 : hdel = false := by
        cases hdel with
        | false => rfl
        | true => cases a3
      have e7 : sl = #[k0, k1, k2, k3, some (.builtin "ValueError.__new__"), k5] := by
        rw [← Array.toArray_toList (xs := sl), hs]
      subst e4 e5 e6 e7
      exact ⟨_, _, _, _, _, _, _, _, _, _, _, _, _, _, _, ho, a5⟩
    · cases h2
  · cases h
def excB (K : PySem.W.Frag) (C : Addr) : Bool := oexB K C && (eqO (PySem.W.findIn K (.ref C) "__setattr__") (some (some (.builtin "object.__setattr__"))) && (decide (PySem.W.subIn K (.ref C) (.type "BaseException") = some true) && (decide (PySem.W.typeIn K (.ref C) = some (.type "type")) && PySem.W.keepIn K (.ref C))))
theorem excB_ok {K : PySem.W.Frag} {C : Addr} (h : excB K C = true) : OexC K C := by
  obtain ⟨a1, h⟩ := ba h
  obtain ⟨a2, h⟩ := ba h
  obtain ⟨a3, h⟩ := ba h
  obtain ⟨a4, a5⟩ := ba h
  exact ⟨oexB_ok a1, eqO_ok a2, of_decide_eq_true a3, of_decide_eq_true a4, a5⟩
def exrB (K : PySem.W.Frag) (C : Addr) : Bool := eqO (PySem.W.findIn K (.ref C) "__getattribute__") (some (some (.builtin "BaseException.__getattribute__"))) && (eqO (PySem.W.findIn K (.ref C) "__getattr__") (some none) && (decide (PySem.W.subIn K (.ref C) (.type "BaseException") = some true) && (PySem.W.hasDictIn K C &&
  (eqO (PySem.W.findIn K (.ref C) "__class__") (some (some (.builtin "object.__class__"))) && (eqO (PySem.W.specialIn K (.builtin "object.__class__") "__get__") (some (some (.builtin "getset_descriptor.__get__"))) && (decide (PySem.W.takesIn K (.builtin "object.__class__") = some true) && decide (PySem.W.mroIn K C (.type "object") = some true)))))))
theorem exrB_ok {K : PySem.W.Frag} {C : Addr} (h : exrB K C = true) : ExR K C := by
  obtain ⟨a1, h⟩ := ba h
  obtain ⟨a2, h⟩ := ba h
  obtain ⟨a3, h⟩ := ba h
  obtain ⟨a4, h⟩ := ba h
  obtain ⟨a5, h⟩ := ba h
  obtain ⟨a6, h⟩ := ba h
  obtain ⟨a7, a8⟩ := ba h
  exact ⟨eqO_ok a1, eqO_ok a2, of_decide_eq_true a3, a4, eqO_ok a5, eqO_ok a6, of_decide_eq_true a7, of_decide_eq_true a8⟩
def iniB (K : PySem.W.Frag) (C : Addr) : Bool := eqO (PySem.W.findIn K (.ref C) "__init__") (some (some (.ref (ma K C "__init__")))) && decide (PySem.W.typeIn K (.ref (ma K C "__init__")) = some (.type "function"))
theorem iniB_ok {K : PySem.W.Frag} {C : Addr} (h : iniB K C = true) : PySem.W.findIn K (.ref C) "__init__" = some (some (.ref (ma K C "__init__"))) ∧ PySem.W.typeIn K (.ref (ma K C "__init__")) = some (.type "function") := by
  obtain ⟨a1, a2⟩ := ba h
  exact ⟨eqO_ok a1, of_decide_eq_true a2⟩
/-- an own error x without a field, with the field fld -/
def err0B (x : Str) (K : PySem.W.Frag) : Bool := excB K (ga K x) && (exrB K (ga K x) && iniB K (ga K x))
def errB (x fld : Str) (K : PySem.W.Frag) : Bool := err0B x K && eqO (PySem.W.findIn K (.ref (ga K x)) fld) (some none)
/-- a value read off a class -/
def clvB (K : PySem.W.Frag) (c : Value) (m : Str) (v : Value) : Bool := match PySem.W.findCls K c (.type "type") m with
  | some (.val u) => decide (u = v)
  | _ => false
theorem clvB_ok {K : PySem.W.Frag} {c : Value} {m : Str} {v : Value} (h : clvB K c m v = true) : PySem.W.findCls K c (.type "type") m = some (.val v) := by
  unfold clvB at h
  split at h
  · rename_i u e
    rw [e, of_decide_eq_true h]
  · cases h
def crdB (K : PySem.W.Frag) (C : Addr) : Bool := PySem.W.readsIn K C (.type "type") && eqO (PySem.W.specialIn K (.ref C) "__getattribute__") (some (some (.builtin "type.__getattribute__")))
theorem crdB_ok {K : PySem.W.Frag} {C : Addr} (h : crdB K C = true) : ClX.CRead K C (.type "type") := by
  obtain ⟨a1, a2⟩ := ba h
  exact ⟨a1, eqO_ok a2⟩
/-- each isinstance of the one kind, by the other -/
def kitB (as bs : List Str) (b : Nat → Nat → Bool) (K : PySem.W.Frag) : Bool := (as.zipIdx).all fun p => (bs.zipIdx).all fun q => decide (PySem.W.kitOne K (.ref (ga K p.1)) (.ref (ga K q.1)) = some (b p.2 q.2))
theorem kitB_ok {as bs : List Str} {b : Nat → Nat → Bool} {K : PySem.W.Frag} (h : kitB as bs b K = true) {i j : Nat} {x y : Str} (hi : as[i]? = some x) (hj : bs[j]? = some y) : PySem.W.kitOne K (.ref (ga K x)) (.ref (ga K y)) = some (b i j) := by
  have h1 := List.all_eq_true.mp h (x, i) (by rw [List.mk_mem_zipIdx_iff_getElem?]; exact hi)
  have h2 := List.all_eq_true.mp h1 (y, j) (by rw [List.mk_mem_zipIdx_iff_getElem?]; exact hj)
  exact of_decide_eq_true h2
def kitVB (as : List Str) (T : String) (b : Bool) (K : PySem.W.Frag) : Bool := as.all fun x => decide (PySem.W.kitOne K (.ref (ga K x)) (.type T) = some b)
theorem kitVB_ok {as : List Str} {T : String} {b : Bool} {K : PySem.W.Frag} (h : kitVB as T b K = true) {x : Str} (hx : x ∈ as) : PySem.W.kitOne K (.ref (ga K x)) (.type T) = some b := of_decide_eq_true (List.all_eq_true.mp h x hx)
end Sl
/-! ## SlSetDc -/
set_option Elab.async false
set_option linter.all false
set_option maxRecDepth 100000
set_option maxHeartbeats 4000000
namespace Sl
open PySem PySem.Spec PyProof.Rows L2
section
variable {X : Cx}
theorem sw_dc {ka va : Expr} {gg : List Comprehension} {sc : Scope} {pc pn : Pos} {z : Str} {ln : Nat} {en : Env} (h1 : en.scope.kind = .function) (h2 : en.scope.names.lookup z = some .local) (h3 : (pn.line == pc.line) = true)
    (h4 : (sc.names.any fun (n, k) => n == z && (k == .local || k == .cell)) = false) : swapsWith (.DictComp ka va gg sc pc) (some (.Name z pn)) ln en = pure true := by
  have q1 : en.kindOf z = some .local := h2
  have q2 : en.blockKind = .function := by
    unfold Env.blockKind
    rw [h1]
    rfl
  unfold swapsWith
  simp only [q2, q1, h4, Expr.pos, h3]
  rfl
/-- name = {..: .. for ..}, the name a local -/
theorem ps_setDc {i : Nat} {z : Str} {pz : Pos} {ka va tg iter : Expr} {ifs : List Expr} {sc : Scope} {own : List (Str × Nat)} {pc ps : Pos} {wi : TI} {g : TG} {tt : TT} {tk tv : TE} (calm : X.calm = true) (nn : X.N.Nodup) (hz : X.N[i]? = some z) (lz : X.env.scope.names.lookup z = some .local)
    (sw : swapsWith (.DictComp ka va [⟨tg, iter, ifs, 0⟩] sc pc) (some (.Name z pz)) ps.line X.env = pure true) (hi : PI X tg iter wi) (bo : BlkOk X.N X.env.scope sc own)
    (h1 : ∀ s H C cl fp, PG (X.blk s H sc (compEnvC sc cl C X.env) fp) tg g) (h2 : ∀ s H C cl fp, PTs (X.blk s H sc (compEnvC sc cl C X.env) fp) ifs tt)
    (h3 : ∀ s H C cl fp, PE (X.blk s H sc (compEnvC sc cl C X.env) fp) ka tk) (h4 : ∀ s H C cl fp, PE (X.blk s H sc (compEnvC sc cl C X.env) fp) va tv) (hf : ∀ x, foldedSetIterable iter X.env x = pure x := by intro _; rfl) :
    PS X (.Assign [.Name z pz] (.DictComp ka va [⟨tg, iter, ifs, 0⟩] sc pc) ps) (tAsg (tDc wi g tt tk tv (own.map (·.2))) (gName i)) := by
  refine ⟨fun pp st σ G D I q => ?_⟩
  rw [exec_Assign_Name_used _ _ _ _ sw]
  refine wpAny_bind (wpAny_standAt (wpAny_bind ?_))
  show wpAny _ X.A (do
    let _ ← comprehension (.DictComp ka va [⟨tg, iter, ifs, 0⟩] sc pc) sc X.env (firstIterPos [⟨tg, iter, ifs, 0⟩] pc) newDict false (eval iter X.env) (some (assign (.Name z pz) X.env))) _ _ st
  have q' : tDc wi g tt tk tv (own.map (·.2)) σ G (fun x G1 => gName i x σ G1 D.nx) := q
  refine wpAny_bind (thn (dc_core (Qf := fun _ st' => SP X pp D .next st') calm nn I hi bo h1 h2 h3 h4 hf q' fun L C st' m G' I' q2 hm fp => ?_) fun _ st' z2 => wpAny_pure (wpAny_pure z2))
  show wpAny _ _ (assign (.Name z pz) X.env (.ref L)) _ _ _
  refine wpAny_assign_Name (store_ok2 (v := V.ref L) I' nn hz (.inl lz) rfl (fun s2 I2 ⟨a, sb, ha⟩ => ?_) (.inr lz))
  obtain ⟨e0, e1, e2, e3, e4, e5⟩ := fp
  have nCa : C ≠ a := by
    rcases ha with w | w
    · rw [w]
      exact e1
    · exact fun e => e4 z a w e.symm
  refine ⟨m, hm.sameBut sb nCa, fun h9 sb9 => ?_⟩
  exact ⟨_, G', I2.turned (t' := s2.toks) (fun b o hb e => (sb9.2 b hb).trans e) e0 e1 e3 e4 e5, q2⟩
end
end Sl
/-! ## FmB -/
set_option Elab.async false
set_option linter.all false
set_option maxRecDepth 100000
set_option maxHeartbeats 8000000
set_option pp.deepTerms false
set_option pp.deepTerms.threshold 3
set_option pp.maxSteps 500
namespace Sl
open PySem PySem.Spec PyProof.Rows L2
theorem kit_self (K : PySem.W.Frag) (C : Addr) : PySem.W.kitOne K (.ref C) (.ref C) = some true := by
  unfold PySem.W.kitOne
  rw [beq_self_eq_true, if_pos rfl]
/-- the dict of the same names, the values changed -/
def mapI (g : Int → Int) (A : NI) : NI := A.map fun q => (q.1, g q.2)
theorem ks_mapI (g : Int → Int) (A : NI) : ks (mapI g A) = ks A := by
  unfold ks mapI
  rw [List.map_map]
  rfl
theorem get?_mapI (g : Int → Int) (A : NI) (x : Str) : get? (mapI g A) x = (get? A x).map g := by
  unfold get? mapI
  induction A with
  | nil => rfl
  | cons p r ih =>
    by_cases h : p.1 = x
    · rw [List.map_cons, List.find?_cons_of_pos (by simpa using h), List.find?_cons_of_pos (by simpa using h)]
      rfl
    · rw [List.map_cons, List.find?_cons_of_neg (by simpa using h), List.find?_cons_of_neg (by simpa using h)]
      exact ih
theorem get0_mapI {g : Int → Int} (h0 : g 0 = 0) (A : NI) (x : Str) : get0 (mapI g A) x = g (get0 A x) := by
  unfold get0
  rw [get?_mapI]
  cases get? A x with
  | none => exact h0.symm
  | some i => rfl
theorem mapI_take {g : Int → Int} {A : NI} {i : Nat} {q : Str × Int} (h : A[i]? = some q) : mapI g (A.take (i + 1)) = mapI g (A.take i) ++ [(q.1, g q.2)] := by
  unfold mapI
  rw [List.take_succ, h, List.map_append]
  rfl
theorem mapI_len (g : Int → Int) (A : NI) : (mapI g A).length = A.length := List.length_map _
/-- the same names in a dict, one by one off a locked one -/
theorem items_dc {σ : L2.St} {H1 : Hp} {d D : Addr} {A : NI} {od : Obj} {m1 m2 : Nat} {tv : TE} {Qd : Hp → Prop} {g : Int → Int} {K : PySem.W.Frag} (n12 : m1 ≠ m2) (l1 : m1 < σ.length) (l2 : m2 < σ.length) (hn : (ks A).Nodup) (hl : A.length ≤ 1000) (hd : H1 d = some (.frz od (dI A))) (hD : H1 D = none)
    (hv : ∀ (q : Str × Int) (H' : Hp) (Q' : VK), q ∈ A → Same H1 H' → Q' (.int (g q.2)) H' → tv (((wipe σ [m1, m2]).set m1 (some (.str q.1))).set m2 (some (.int q.2))) H' Q')
    (k : ∀ H', Same H1 H' → H' D = some (dI (mapI g A)) → Qd H') :
    ∃ W : Nat → Nat → Hp → Prop, (∃ m, W 0 m (upd H1 D (.dK []))) ∧ ∀ i m H, W i m H →
      ((Iti d od (A.map kvi)).stop i H ∧ Qd H) ∨ ((Iti d od (A.map kvi)).go i H ∧ ∃ Nx : Hp → Prop, (∀ H', Nx H' → ∃ m', m' < m ∧ W (i + 1) m' H') ∧ ∀ x H', (Iti d od (A.map kvi)).yld i H x H' → gTup K 2 (gCons (gName m1) (gCons (gName m2) gNil)) x (wipe σ [m1, m2]) H' fun σ2 H2 => wipe σ2 [m1, m2] = wipe σ [m1, m2] ∧ tYes σ2 H2 fun b H3 =>
        if b = true then tVar m1 σ2 H3 fun y H4 => tv σ2 H4 fun z H5 => ∃ kvs k, y = kV k ∧ H5 D = some (.dK kvs) ∧ kvs.length < sizeLine ∧ Nx (upd H5 D (.dK (putK kvs k z))) else Nx H3) := by
  refine dc_it (walk_items (o := od) (d := d) (kvs := A.map kvi)) (fun i H' => Same H1 H' ∧ H' D = some (dI (mapI g (A.take i)))) ⟨same_new hD, upd_same⟩ (fun i H' _ ⟨s2, _⟩ => s2 _ _ hd) ?_ ?_
  · rintro i x Ha Hb hi ⟨s2, hdD⟩ hy
    obtain ⟨T, q, hq, rfl, hT, rfl⟩ := pair_kvi hi hy
    have s3 := s2.trans (same_new (o := .tup [.str q.1, .int q.2]) hT)
    have nT : D ≠ T := ne_of_none hdD hT
    refine ⟨T, _, rfl, SqT.of upd_same, rfl, _, _, rfl, _, _, rfl, rfl, ?_, yes_of (iteT ?_)⟩
    · refine List.ext_getElem? fun j => ?_
      simp only [wipe, List.getElem?_set, List.length_set]
      repeat' split
      all_goals first | rfl | omega
    · refine ⟨.str q.1, ?_, hv q _ _ (List.mem_of_getElem? hq) s3 ?_⟩
      · rw [List.getElem?_set_ne (Ne.symm n12), List.getElem?_set_self (by simpa [wipe_length] using l1)]
      · refine ⟨_, .inr q.1, rfl, by rw [upd_ne nT]; exact hdD, ?_, ?_, ?_⟩
        · rw [List.length_map, mapI_len, List.length_take, sizeLine_eq]
          omega
        · intro c o e
          rw [upd_ne (ne_of_none e hD)]
          exact s3 _ _ e
        · rw [upd_same, mapI_take hq, putK_new _ _ _ ?_]
          · rfl
          · rw [ks_mapI]
            exact take_fresh hn hq
  · rintro H2 ⟨s2, hdD⟩
    rw [List.length_map, List.take_length] at hdD
    exact k H2 s2 hdD
end Sl
namespace Lw
open PySem PySem.Spec PyProof.Rows L2 Sl
section
variable {P : Program} {w : World} {K : PySem.W.Frag} {mg : Str → Option Value} {base : Heap} {f : Addr} {fd : FuncData} {C : Addr}
def sp_feq (K : PySem.W.Frag) (C : Addr) : Sp := fun vs H Q _ => ∃ (t : Addr) (v : V) (A : NI) (n : Int), vs = [.ref t, v] ∧ FormAt H C t A n ∧
  ((∃ (u : Addr) (B : NI) (m : Int), v = .ref u ∧ FormAt H C u B m ∧ Q (.bl (eqI A B && decide (V.int n = V.int m))) H) ∨ (∃ ty, TyX K H v ty ∧ PySem.W.kitOne K ty (.ref C) = some false ∧ Q (.bl false) H))
theorem ok_feq (F : FunD K "__eq__" "Form.__eq__" (defArgs s_Form___eq__) (defBody s_Form___eq__) (defScope s_Form___eq__) [] [] f fd) (T : FormC K C) (mI : mg "isinstance" = none) (gT : mg "Form" = some (.ref C)) : FnOk P w K mg base CX0 1 f fd ["self", "other"] (sp_feq K C) := by
  refine F.ok sc_Form___eq__ (fun vs H Q E h => ?_) (fun cdv A outer s H vs Q E hr h => ?_)
  · obtain ⟨t, v, A, n, rfl, _⟩ := h
    rfl
  · obtain ⟨t, v, A, n, rfl, ⟨dx, d, ht, h1⟩, h⟩ := h
    have hu := hr.units0
    refine ⟨_, PSs.nox (pss_one (ps_ret (pe_and (pe_callB call_isi (by rfl) mI PyProof.Rows.Boot.«isinstance» (pa_cons (pv 1) (pa_cons (pe_glob (v := .ref C) (by rfl) gT rfl) pa_nil)))
      (pe_and (pe_cmpR (op_eqDic hu) (pe_fld (pv 0) rfl) (pe_fld (pv 1) rfl) (nomark _)) (pe_one (pe_cmpR op_eq (pe_fld (pv 0) rfl) (pe_fld (pv 1) rfl) (nomark _))))))), ?_⟩
    rcases h with ⟨u, B, m, rfl, ⟨dy, e, hu', g1⟩, k⟩ | ⟨ty, h3, h4, k⟩
    · refine ⟨_, rfl, _, .ref C, .ref C, .ref C, true, rfl, .own C, .base (.ins hu' T.cl T.ca T.sg T.tk T.ob), kit_self K C, _, rfl, iteT ?_⟩
      refine ⟨_, rfl, t, C, dx, _, .ref d, rfl, ht, T.cl, T.nP, rfl, _, rfl, u, C, dy, _, .ref e, rfl, hu', T.cl, T.nP, rfl, d, e, _, _, rfl, rfl, .inl h1, .inl g1, flat_dI A, flat_dI B, ?_⟩
      refine ⟨_, rfl, ite_of (fun c => ?_) (fun c => ?_)⟩
      · refine ⟨_, rfl, t, C, dx, _, .int n, rfl, ht, T.cl, T.nN, rfl, _, rfl, u, C, dy, _, .int m, rfl, hu', T.cl, T.nN, rfl, rfl, ?_⟩
        have c' : eqI A B = true := c
        rw [c', Bool.true_and] at k
        exact k
      · have c' : eqI A B = false := c
        rw [c', Bool.false_and] at k
        exact k
    · exact ⟨_, rfl, _, .ref C, ty, .ref C, false, rfl, .own C, h3, h4, _, rfl, iteF k⟩
/-- what an operator's answer is: a new form -/
def NewForm (H : Hp) (C : Addr) (S : NI) (n : Int) (Q : VK) : Prop := ∀ (r : Addr) (A : NI) (H' : Hp), Same H H' → FormAt H' C r A n → Cn A → (∀ x, get0 A x = get0 S x) → (∀ x ∈ ks A, x ∈ ks S) → Q (.ref r) H'
def sp_fadd (C : Addr) : Sp := fun vs H Q _ => ∃ (t u : Addr) (A B : NI) (n m : Int), vs = [.ref t, .ref u] ∧ FormAt H C t A n ∧ FormAt H C u B m ∧ okW A ∧ okW B ∧ A.length + B.length ≤ 60 ∧
  ∀ S : NI, (∀ x, get0 S x = get0 A x + get0 B x) → (∀ x, x ∈ ks S ↔ x ∈ ks A ∨ x ∈ ks B) → NewForm H C S (n + m) Q
def sp_fsub (C : Addr) : Sp := fun vs H Q _ => ∃ (t u : Addr) (A B : NI) (n m : Int), vs = [.ref t, .ref u] ∧ FormAt H C t A n ∧ FormAt H C u B m ∧ okW A ∧ okW B ∧ A.length + B.length ≤ 60 ∧
  ∀ S : NI, (∀ x, get0 S x = get0 A x - get0 B x) → (∀ x, x ∈ ks S ↔ x ∈ ks A ∨ x ∈ ks B) → NewForm H C S (n - m) Q
def sp_fmul (C : Addr) : Sp := fun vs H Q _ => ∃ (t : Addr) (A : NI) (n m : Int), vs = [.ref t, .int m] ∧ FormAt H C t A n ∧ okW A ∧ bd 300 A ∧ n.natAbs < 2 ^ 300 ∧ m.natAbs < 2 ^ 300 ∧ NewForm H C (mapI (fun i => i * m) A) (n * m) Q
theorem okW_sum {A B S : NI} (oA : okW A) (oB : okW B) (n : (ks S).Nodup) (m : ∀ x, x ∈ ks S ↔ x ∈ ks A ∨ x ∈ ks B) (l : S.length ≤ 60) : okW S := ⟨n, fun x hx => ((m x).mp hx).elim (oA.2.1 x) (oB.2.1 x), l⟩
theorem okW_map {A : NI} (o : okW A) (g : Int → Int) : okW (mapI g A) := ⟨by rw [ks_mapI]; exact o.1, by rw [ks_mapI]; exact o.2.1, by rw [mapI_len]; exact o.2.2⟩
theorem union_len {A B S : NI} (n : (ks S).Nodup) (m : ∀ x, x ∈ ks S ↔ x ∈ ks A ∨ x ∈ ks B) : S.length ≤ A.length + B.length := by
  rcases Nat.lt_or_ge (A.length + B.length) S.length with h | h
  · exfalso
    obtain ⟨x, hx, hy⟩ := one_not_in (ks S) (ks A ++ ks B) n (by rw [List.length_append, ks_len, ks_len, ks_len]; exact h)
    exact hy (List.mem_append.mpr ((m x).mp hx))
  · exact h
theorem ok_fadd (F : FunD K "__add__" "Form.__add__" (defArgs s_Form___add__) (defBody s_Form___add__) (defScope s_Form___add__) [] [] f fd) (G : FormF P w K mg base C) (S : Cal P w K mg base 1 "sums" [] sp_sums) (mI : mg "isinstance" = none) :
    FnOk P w K mg base CX0 7 f fd ["self", "other"] (sp_fadd C) := by
  refine F.ok sc_Form___add__ (fun vs H Q E h => ?_) (fun cdv A outer s H vs Q E hr h => ?_)
  · obtain ⟨t, u, A, B, n, m, rfl, _⟩ := h
    rfl
  · obtain ⟨t, u, A, B, n, m, rfl, ⟨dx, d, ht, h1⟩, ⟨dy, e, hu', g1⟩, oA, oB, lab, k⟩ := h
    have hr1 := hr.mono (show 1 ≤ 6 by decide)
    have T := G.T
    refine ⟨_, PSs.nox (pss_cons (ps_if (pt_not (pt_val (pe_callB call_isi (by rfl) mI PyProof.Rows.Boot.«isinstance» (pa_cons (pv 1) (pa_cons (pe_glob (v := .ref C) (by rfl) G.g rfl) pa_nil))))) (pss_one ps_never) pss_nil)
      (pss_one (ps_ret (pe_form2 G hr (pa_cons (pe_cal S hr1 (pa_cons (pe_fld (pv 0) rfl) (pa_cons (pe_fld (pv 1) rfl) pa_nil))) (pa_cons (pe_op op_add (pe_fld (pv 0) rfl) (pe_fld (pv 1) rfl)) pa_nil)))))), ?_⟩
    refine ifs_of ⟨_, rfl, _, .ref C, .ref C, .ref C, true, rfl, .own C, .base (.ins hu' T.cl T.ca T.sg T.tk T.ob), kit_self K C, _, rfl, iteF (nx_of ?_)⟩
    refine ⟨_, rfl, t, C, dx, _, .ref d, rfl, ht, T.cl, T.nP, rfl, _, rfl, u, C, dy, _, .ref e, rfl, hu', T.cl, T.nP, rfl, d, e, A, B, rfl, h1, g1, oA.1, oB.1, (by have := oA.2.2; omega), (by have := oB.2.2; omega), fun p1 S1 H1 hp1 s1 q1 nS1 mS1 vS1 lS1 => ?_⟩
    refine ⟨_, rfl, t, C, dx, _, .int n, rfl, s1 _ _ ht, T.cl, T.nN, rfl, _, rfl, u, C, dy, _, .int m, rfl, s1 _ _ hu', T.cl, T.nN, rfl, _, _, rfl, rfl, ?_⟩
    have o1 : okW S1 := okW_sum oA oB nS1 mS1 (Nat.le_trans (union_len nS1 mS1) lab)
    exact fmake_k q1 o1 fun x dx d1 A' H' hx hd1 sm fx pr => k S1 vS1 mS1 x A' H' (s1.trans sm) ⟨_, _, fx⟩ pr.cn pr.g pr.s
theorem ok_fsub (F : FunD K "__sub__" "Form.__sub__" (defArgs s_Form___sub__) (defBody s_Form___sub__) (defScope s_Form___sub__) [] [] f fd) (G : FormF P w K mg base C) (S : Cal P w K mg base 1 "sums" [] sp_sums) (mI : mg "isinstance" = none) :
    FnOk P w K mg base CX0 7 f fd ["self", "other"] (sp_fsub C) := by
  refine F.ok sc_Form___sub__ (fun vs H Q E h => ?_) (fun cdv A outer s H vs Q E hr h => ?_)
  · obtain ⟨t, u, A, B, n, m, rfl, _⟩ := h
    rfl
  · obtain ⟨t, u, A, B, n, m, rfl, ⟨dx, d, ht, h1⟩, ⟨dy, e, hu', g1⟩, oA, oB, lab, k⟩ := h
    have nd := sc_Form___sub__.nd
    have hr1 := hr.mono (show 1 ≤ 6 by decide)
    have T := G.T
    refine ⟨_, PSs.nox (pss_cons (ps_if (pt_not (pt_val (pe_callB call_isi (by rfl) mI PyProof.Rows.Boot.«isinstance» (pa_cons (pv 1) (pa_cons (pe_glob (v := .ref C) (by rfl) G.g rfl) pa_nil))))) (pss_one ps_never) pss_nil)
      (pss_cons (ps_lock (ps_setDc (i := 2) (own := [("word", 3), ("times", 4)]) (g := gTup K 2 (gCons (gName 3) (gCons (gName 4) gNil))) (tt := tYes) rfl nd rfl rfl (sw_dc rfl rfl rfl (by decide +kernel)) (pi_items (pe_fld (pv 1) rfl)) (blkOk_by (N := ["self", "other", "less", "word", "times"]) (sc := defScope s_Form___sub__) (by decide +kernel))
          (fun _ _ _ _ _ => pg_two (i := 3) (j := 4) rfl nd rfl rfl (Or.inl rfl) (Or.inl rfl)) (fun _ _ _ _ _ => pts_nil) (fun _ _ _ _ _ => pv 3) (fun _ _ _ _ _ => pe_un un_neg (pv 4))))
      (pss_one (ps_ret (pe_form2 G hr (pa_cons (pe_cal S hr1 (pa_cons (pe_fld (pv 0) rfl) (pa_cons (pv 2) pa_nil))) (pa_cons (pe_op op_sub (pe_fld (pv 0) rfl) (pe_fld (pv 1) rfl)) pa_nil))))))), ?_⟩
    refine ifs_of ⟨_, rfl, _, .ref C, .ref C, .ref C, true, rfl, .own C, .base (.ins hu' T.cl T.ca T.sg T.tk T.ob), kit_self K C, _, rfl, iteF (nx_of ?_)⟩
    show tSeq (tLock (tAsg _ (gName 2))) _ _ [some (V.ref t), some (V.ref u), none, none, none] H
    refine ⟨e, dI B, g1, True.intro, fun od => ?_⟩
    have nue : u ≠ e := fun x => by rw [x, g1] at hu'; cases hu'
    refine ⟨_, rfl, u, C, dy, _, .ref e, rfl, by rw [upd_ne nue]; exact hu', T.cl, T.nP, rfl, e, od, B.map kvi, rfl, upd_same, fun D hD => ?_⟩
    obtain ⟨hD0, nDe⟩ := free_lock hD g1
    refine items_dc (g := fun i => -i) (σ := [some (V.ref t), some (V.ref u), none, none, none]) (by decide) (by show 3 < 5; decide) (by show 4 < 5; decide) oB.1 (by have := oB.2.2; omega) upd_same hD (fun q H' Q' hq sm hq' => ⟨_, rfl, q.2, rfl, hq'⟩) fun H2 s2 hD2 => ?_
    refine ⟨s2 _ _ upd_same, ?_⟩
    have s3 := same_unlock g1 s2
    have e3 : (upd H2 e (dI B)) D = some (dI (mapI (fun i => -i) B)) := by rw [upd_ne nDe]; exact hD2
    generalize upd H2 e (dI B) = H3 at s3 e3
    refine ⟨_, rfl, t, C, dx, _, .ref d, rfl, s3 _ _ ht, T.cl, T.nP, rfl, _, rfl, d, D, A, mapI (fun i => -i) B, rfl, s3 _ _ h1, e3, oA.1, by rw [ks_mapI]; exact oB.1, (by have := oA.2.2; omega), (by rw [mapI_len]; have := oB.2.2; omega), fun p1 S1 H4 hp1 s4 q1 nS1 mS1 vS1 lS1 => ?_⟩
    have s5 := s3.trans s4
    refine ⟨_, rfl, t, C, dx, _, .int n, rfl, s5 _ _ ht, T.cl, T.nN, rfl, _, rfl, u, C, dy, _, .int m, rfl, s5 _ _ hu', T.cl, T.nN, rfl, _, _, rfl, rfl, ?_⟩
    have m1 : ∀ x, x ∈ ks S1 ↔ x ∈ ks A ∨ x ∈ ks B := fun x => by rw [mS1, ks_mapI]
    have v1 : ∀ x, get0 S1 x = get0 A x - get0 B x := fun x => by rw [vS1, get0_mapI (g := fun i => -i) rfl]; omega
    have o1 : okW S1 := okW_sum oA oB nS1 m1 (Nat.le_trans (union_len nS1 m1) lab)
    exact fmake_k q1 o1 fun x dx d1 A' H' hx hd1 sm fx pr => k S1 v1 m1 x A' H' (s5.trans sm) ⟨_, _, fx⟩ pr.cn pr.g pr.s
theorem ok_fmul (F : FunD K "__mul__" "Form.__mul__" (defArgs s_Form___mul__) (defBody s_Form___mul__) (defScope s_Form___mul__) [] [] f fd) (G : FormF P w K mg base C) (I : Cal P w K mg base 1 "is_integer" [] (sp_isint K)) :
    FnOk P w K mg base CX0 7 f fd ["self", "other"] (sp_fmul C) := by
  refine F.ok sc_Form___mul__ (fun vs H Q E h => ?_) (fun cdv A outer s H vs Q E hr h => ?_)
  · obtain ⟨t, A, n, m, rfl, _⟩ := h
    rfl
  · obtain ⟨t, A, n, m, rfl, ⟨dx, d, ht, h1⟩, oA, bA, bn, bm, k⟩ := h
    have nd := sc_Form___mul__.nd
    have hr1 := hr.mono (show 1 ≤ 6 by decide)
    have T := G.T
    refine ⟨_, PSs.nox (pss_cons (ps_if (pt_not (pt_val (pe_cal I hr1 (pa_cons (pv 1) pa_nil)))) (pss_one ps_never) pss_nil)
      (pss_one (ps_ret (pe_form2 G hr (pa_cons (pe_lock (pe_dc (own := [("word", 2), ("times", 3)]) (g := gTup K 2 (gCons (gName 2) (gCons (gName 3) gNil))) (tt := tYes) rfl nd (pi_items (pe_fld (pv 0) rfl)) (blkOk_by (N := ["self", "other", "word", "times"]) (sc := defScope s_Form___mul__) (by decide +kernel))
          (fun _ _ _ _ _ => pg_two (i := 2) (j := 3) rfl nd rfl rfl (Or.inl rfl) (Or.inl rfl)) (fun _ _ _ _ _ => pts_nil) (fun _ _ _ _ _ => pv 2) (fun _ _ _ _ _ => pe_op op_mulW (pv 3) (pv 1)))) (pa_cons (pe_op op_mulW (pe_fld (pv 0) rfl) (pv 1)) pa_nil)))))), ?_⟩
    refine ifs_of ⟨_, rfl, m, rfl, true, rfl, iteF (nx_of ?_)⟩
    refine ⟨d, dI A, h1, True.intro, fun od => ?_⟩
    have ntd : t ≠ d := fun x => by rw [x, h1] at ht; cases ht
    refine ⟨_, rfl, t, C, dx, _, .ref d, rfl, by rw [upd_ne ntd]; exact ht, T.cl, T.nP, rfl, d, od, A.map kvi, rfl, upd_same, fun D hD => ?_⟩
    obtain ⟨hD0, nDd⟩ := free_lock hD h1
    refine items_dc (g := fun i => i * m) (σ := [some (V.ref t), some (V.int m), none, none]) (by decide) (by show 2 < 4; decide) (by show 3 < 4; decide) oA.1 (by have := oA.2.2; omega) upd_same hD (fun q H' Q' hq sm hq' => ⟨_, rfl, _, rfl, q.2, m, rfl, rfl, wide_mul (a := 300) (b := 300) (by rw [← val_of oA.1 hq]; exact bA _) bm (by decide) (by decide) (by decide), hq'⟩) fun H2 s2 hD2 => ?_
    refine ⟨s2 _ _ upd_same, ?_⟩
    have s3 := same_unlock h1 s2
    have e3 : (upd H2 d (dI A)) D = some (dI (mapI (fun i => i * m) A)) := by rw [upd_ne nDd]; exact hD2
    generalize upd H2 d (dI A) = H3 at s3 e3
    refine ⟨_, rfl, t, C, dx, _, .int n, rfl, s3 _ _ ht, T.cl, T.nN, rfl, _, rfl, n, m, rfl, rfl, wide_mul (a := 300) (b := 300) bn bm (by decide) (by decide) (by decide), ?_⟩
    exact fmake_k e3 (okW_map oA _) fun x dx d1 A' H' hx hd1 sm fx pr => k x A' H' (s3.trans sm) ⟨_, _, fx⟩ pr.cn pr.g pr.s
def sp_fint (C : Addr) : Sp := fun vs H Q _ => ∃ (t : Addr) (A : NI) (n : Int), vs = [.ref t] ∧ FormAt H C t A n ∧ Q (.int n) H
theorem ok_fint (F : FunD K "integer" "Form.integer" (defArgs s_Form_integer) (defBody s_Form_integer) (defScope s_Form_integer) [] [] f fd) (T : FormC K C) : FnOk P w K mg base CX0 1 f fd ["self"] (sp_fint C) := by
  refine F.ok sc_Form_integer (fun vs H Q E h => ?_) (fun cdv A outer s H vs Q E hr h => ?_)
  · obtain ⟨t, A, n, rfl, _⟩ := h
    rfl
  · obtain ⟨t, A, n, rfl, ⟨dx, d, ht, h1⟩, k⟩ := h
    exact ⟨_, PSs.nox (pss_one (ps_ret (pe_fld (pv 0) rfl))), ⟨_, rfl, t, C, dx, _, .int n, rfl, ht, T.cl, T.nN, rfl, k⟩⟩
def sp_fparts (C : Addr) : Sp := fun vs H Q _ => ∃ (t : Addr) (A : NI) (n : Int), vs = [.ref t] ∧ FormAt H C t A n ∧ ∀ p, H p = none → Q (.ref p) (upd H p (dI A))
theorem ok_fparts (F : FunD K "parts" "Form.parts" (defArgs s_Form_parts) (defBody s_Form_parts) (defScope s_Form_parts) [] [] f fd) (T : FormC K C) (mD : mg "dict" = none) : FnOk P w K mg base CX0 1 f fd ["self"] (sp_fparts C) := by
  refine F.ok sc_Form_parts (fun vs H Q E h => ?_) (fun cdv A outer s H vs Q E hr h => ?_)
  · obtain ⟨t, A, n, rfl, _⟩ := h
    rfl
  · obtain ⟨t, A, n, rfl, ⟨dx, d, ht, h1⟩, k⟩ := h
    exact ⟨_, PSs.nox (pss_one (ps_ret (pe_callTy call_dictD (by rfl) mD (by decide +kernel) (pa_cons (pe_fld (pv 0) rfl) pa_nil)))), ⟨_, rfl, t, C, dx, _, .ref d, rfl, ht, T.cl, T.nP, rfl, d, A.map kvi, rfl, .inl h1, k⟩⟩
def worthI (A W : NI) : Int := (A.map fun q => q.2 * get0 W q.1).sum
def sp_fof (C : Addr) : Sp := fun vs H Q _ => ∃ (t e : Addr) (A W : NI) (n : Int), vs = [.ref t, .ref e] ∧ FormAt H C t A n ∧ H e = some (dI W) ∧ (ks A).Nodup ∧ A.length ≤ 60 ∧ bd 700 A ∧ bd 700 W ∧ ∀ H', Same H H' → Q (.int (n + worthI A W)) H'
theorem ok_fof (F : FunD K "of" "Form.of" (defArgs s_Form_of) (defBody s_Form_of) (defScope s_Form_of) [] [] f fd) (T : FormC K C) (mS : mg "sum" = none) : FnOk P w K mg base CX0 1 f fd ["self", "worths"] (sp_fof C) := by
  refine F.ok sc_Form_of (fun vs H Q E h => ?_) (fun cdv A outer s H vs Q E hr h => ?_)
  · obtain ⟨t, e, A, W, n, rfl, _⟩ := h
    rfl
  · obtain ⟨t, e, A, W, n, rfl, ⟨dx, d, ht, h1⟩, he, hn, hl, bA, bW, k⟩ := h
    have nd := sc_Form_of.nd
    have hu := hu_of hr
    refine ⟨_, PSs.nox (pss_one (ps_ret (pe_op op_add (pe_fld (pv 0) rfl) (pe_callB (cr_sum rfl) (by rfl) mS (by decide +kernel) (pa_cons (pe_lock (pe_lc (own := [("word", 2), ("times", 3)]) (g := gTup K 2 (gCons (gName 2) (gCons (gName 3) gNil))) (tt := tYes) rfl nd (pi_items (pe_fld (pv 0) rfl)) (blkOk_by (N := ["self", "worths", "word", "times"]) (sc := defScope s_Form_of) (by decide +kernel))
          (fun _ _ _ _ _ => pg_two (i := 2) (j := 3) rfl nd rfl rfl (Or.inl rfl) (Or.inl rfl)) (fun _ _ _ _ _ => pts_nil) (fun _ _ _ _ _ => pe_op op_mulW (pv 3) (pe_dget2 hu (pv 1) (pv 2) pe_int ⟨rfl, rfl, rfl, rfl⟩)))) pa_nil))))), ?_⟩
    refine ⟨_, rfl, t, C, dx, _, .int n, rfl, ht, T.cl, T.nN, rfl, ?_⟩
    refine ⟨d, dI A, h1, True.intro, fun od => ?_⟩
    have ntd : t ≠ d := fun x => by rw [x, h1] at ht; cases ht
    have el : (upd H d (.frz od (dI A))) d = some (.frz od (dI A)) := upd_same
    have rW := rd_lock (od := od) h1 he
    refine ⟨_, rfl, t, C, dx, _, .ref d, rfl, by rw [upd_ne ntd]; exact ht, T.cl, T.nP, rfl, d, od, A.map kvi, rfl, el, fun D hD => ?_⟩
    obtain ⟨hD0, nDd⟩ := free_lock hD h1
    refine lc_it (walk_items (o := od) (d := d) (kvs := A.map kvi)) (fun i H' => Same (upd H d (.frz od (dI A))) H' ∧ H' D = some (.lst (((A.take i).map fun q => q.2 * get0 W q.1).map V.int))) ⟨same_new hD, upd_same⟩ (fun i H' _ ⟨s2, _⟩ => s2 _ _ el) ?_ ?_
    · rintro i x Ha Hb hi ⟨s2, hdD⟩ hy
      obtain ⟨T', q, hq, rfl, hT, rfl⟩ := pair_kvi hi hy
      have s3 := s2.trans (same_new (o := .tup [.str q.1, .int q.2]) hT)
      have nT : D ≠ T' := ne_of_none hdD hT
      have rW3 := rd_same rW s3
      refine ⟨T', _, rfl, SqT.of upd_same, rfl, _, _, rfl, _, _, rfl, rfl, rfl, yes_of (iteT ?_)⟩
      refine ⟨_, rfl, _, rfl, e, rfl, .inl ⟨_, rW3⟩, _, rfl, valV (W.map kvi) (.inr q.1), .inl ⟨W.map kvi, .inr q.1, rW3, rfl, rfl⟩, q.2, get0 W q.1, rfl, getD_kvi W q.1, ?_, _, by rw [upd_ne nT]; exact hdD, ?_, ?_, ?_⟩
      · exact wide_mul (a := 700) (b := 700) (by rw [← val_of hn (List.mem_of_getElem? hq)]; exact bA _) (bW _) (by decide) (by decide) (by decide)
      · rw [List.length_map, List.length_map, List.length_take, sizeLine_eq]
        omega
      · intro c o ec
        rw [upd_ne (ne_of_none ec hD)]
        exact s3 _ _ ec
      · rw [upd_same, List.take_succ, hq, List.map_append, List.map_append]
        rfl
    · rintro H2 ⟨s2, hdD⟩
      rw [List.length_map, List.take_length] at hdD
      refine ⟨s2 _ _ el, D, _, rfl, SqL.of (by rw [upd_ne nDd]; exact hdD), n, _, rfl, rfl, k _ (same_unlock h1 s2)⟩
end
end Lw
/-! ## SlMeth -/
set_option Elab.async false
set_option linter.all false
set_option maxRecDepth 100000
set_option maxHeartbeats 4000000
namespace Sl
open PySem PySem.Spec PyProof.Rows L2
/-- a method of an own class that lets no exception out -/
structure CalM (P : Program) (w : World) (K : PySem.W.Frag) (mg : Str → Option Value) (base : Heap) (C : Addr) (k : Nat) (m : Str) (sp : Sp) : Prop where
  ex : ∃ (f : Addr) (fd : FuncData) (ps : List Str), Meth K C m f ∧ FnOk P w K mg base CX0 k f fd ps sp ∧ Binds K fd ps []
/-- a property of an own class -/
structure CalP (P : Program) (w : World) (K : PySem.W.Frag) (mg : Str → Option Value) (base : Heap) (C : Addr) (k : Nat) (m : Str) (sp : Sp) : Prop where
  ex : ∃ (p g : Addr) (fd : FuncData) (ps : List Str), PropOf K C m p g ∧ FnOk P w K mg base CX0 k g fd ps sp ∧ Binds K fd ps []
/-- an operator of an own class -/
structure OwnF (P : Program) (w : World) (K : PySem.W.Frag) (mg : Str → Option Value) (base : Heap) (C : Addr) (k : Nat) (m : Str) (sp : Sp) : Prop where
  ex : ∃ (f : Addr) (fd : FuncData) (ps : List Str), PySem.W.findIn K (.ref C) m = some (some (.ref f)) ∧ PySem.W.isFn K (.ref f) = true ∧ FnOk P w K mg base CX0 k f fd ps sp ∧ Binds K fd ps []
section
variable {X : Cx} {C : Addr} {k : Nat} {m : Str} {sp : Sp} {o e : Expr} {ta te : TE} {apos pos : Pos}
theorem pe_me0 (h : CalM X.prog X.w X.K X.mg X.base C k m sp) (c : Cls X.K C) (hr : Room k X.A) (he : PE X o ta)
    (ht : ∃ pl : Sem Bool, eval (.Call (.Attribute o m apos) [] [] pos) X.env = (do
      let ov ← eval o X.env
      standAt apos.atName
      let (f, first) ← holding [ov] (getMethod ov m pl)
      callWith pos f first (backTo pos (starEach [] X.env)) (backToKw pos (keywordEach [] X.env))) := by exact ⟨_, rfl⟩) : PE X (.Call (.Attribute o m apos) [] [] pos) (tMeth C m sp [] E0 ta tNil) := by
  obtain ⟨f, fd, ps, M, F, b⟩ := h.ex
  obtain ⟨pl, ht⟩ := ht
  exact pe_meth0 he c M F hr b .nil pass0 ht
theorem pe_me1 (h : CalM X.prog X.w X.K X.mg X.base C k m sp) (c : Cls X.K C) (hr : Room k X.A) (he : PE X o ta) (ha : PE X e te)
    (hst : starEach [e] X.env = (false, eval e X.env) :: starEach [] X.env := by rfl) (hpl : (backTo pos (starEach [] X.env)).any (·.1) = false := by rfl)
    (ht : ∃ pl : Sem Bool, eval (.Call (.Attribute o m apos) [e] [] pos) X.env = (do
      let ov ← eval o X.env
      standAt apos.atName
      let (f, first) ← holding [ov] (getMethod ov m pl)
      callWith pos f first (backTo pos (starEach [e] X.env)) (backToKw pos (keywordEach [] X.env))) := by exact ⟨_, rfl⟩) : PE X (.Call (.Attribute o m apos) [e] [] pos) (tMeth C m sp [] E0 ta (tCons te tNil)) := by
  obtain ⟨f, fd, ps, M, F, b⟩ := h.ex
  obtain ⟨pl, ht⟩ := ht
  exact pe_meth he c M F hr b .nil pass0 (pa_cons ha pa_nil hst) hst hpl ht
theorem pe_pr (h : CalP X.prog X.w X.K X.mg X.base C k m sp) (c : Cls X.K C) (hr : Room (k + 1) X.A) (he : PE X o ta) (hab : attributeBase o m X.env (eval o X.env) = eval o X.env := by rfl) : PE X (.Attribute o m pos) (tProp C sp [] E0 ta) := by
  obtain ⟨p, g, fd, ps, M, F, b⟩ := h.ex
  exact pe_prop he c M F hr b .nil pass0 hab
end
end Sl
/-! ## SlEq -/
set_option Elab.async false
set_option linter.all false
set_option maxRecDepth 100000
set_option maxHeartbeats 4000000
namespace Sl
open PySem PySem.Spec PyProof.Rows L2
/-- flat, or an object (then the very same one is meant) -/
def tame : V → Bool
  | .ref _ => true
  | v => flatB v
/-- xs != ys, two lists of the same tame items -/
def rNeS (K : PySem.W.Frag) : R2 := fun x y H Q => ∃ (a b : Addr) (xs : List V), x = .ref a ∧ y = .ref b ∧ SqL K H a xs ∧ SqL K H b xs ∧ (xs.all tame) = true ∧ Q (.bl false) H
theorem tame_same {A : Around} {s : Shared} {v : V} {u u' : Value} (r : RelV v u) (r' : RelV v u') (f : tame v = true) : SeqAt.EqAt A s u u' true := by
  cases v with
  | ref a =>
    cases (show u = Value.ref a from r)
    cases (show u' = Value.ref a from r')
    exact SeqAt.EqAt.same _
  | non => exact eqAt_same r r' rfl
  | bl b => exact eqAt_same r r' rfl
  | int i => exact eqAt_same r r' rfl
  | str z => exact eqAt_same r r' rfl
  | byt z => exact eqAt_same r r' rfl
  | flt z => cases f
  | ty z => cases f
theorem op_neS {X : Cx} (hu : X.A.units < cLine) : OpR X (compareOp .NotEq) (rNeS X.K) := by
  intro pins s σ H x y v u Q I rx ry h
  obtain ⟨a, b, xs, rfl, rfl, ha, hb, ht, q⟩ := h
  cases (show v = Value.ref a from rx)
  cases (show u = Value.ref b from ry)
  obtain ⟨us, r1, p1, _⟩ := I.list ha
  obtain ⟨ws, r2, p2, _⟩ := I.list hb
  have hsz : us.toArray.size = ws.toArray.size := by
    rw [List.size_toArray, List.size_toArray, ← r1.length, ← r2.length]
  have hall := List.all_eq_true.mp ht
  refine SeqAt.RcNeAt.lists (e := fun _ => true) p1.isList p2.isList hsz hu (fun j h1 h2 => ?_) X.prog X.w _ _ ?_
  · have j1 : j < xs.length := by
      rw [r1.length]
      simpa using h1
    obtain ⟨u1, e1, q1⟩ := r1.get (List.getElem?_eq_getElem j1)
    obtain ⟨u2, e2, q2⟩ := r2.get (List.getElem?_eq_getElem j1)
    have z := tame_same (A := X.A.in1) (s := s) q1 q2 (hall _ (List.getElem_mem j1))
    have k1 : us.toArray[j] = u1 := by
      have : us[j]? = some u1 := e1
      rw [List.getElem?_eq_getElem (by simpa using h1)] at this
      simpa using Option.some.inj this
    have k2 : ws.toArray[j] = u2 := by
      have : ws[j]? = some u2 := e2
      rw [List.getElem?_eq_getElem (by simpa using h2)] at this
      simpa using Option.some.inj this
    rw [k1, k2]
    exact z
  · rw [show ((List.range us.toArray.size).all fun _ => true) = true from List.all_eq_true.mpr fun _ _ => rfl]
    exact ⟨.bl false, H, I, rfl, q⟩
end Sl
/-! ## SlLcp -/
set_option Elab.async false
set_option linter.all false
set_option maxRecDepth 100000
set_option maxHeartbeats 4000000
namespace Sl
open PySem PySem.Spec PyProof.Rows L2
/-! [(x, e) for x in names if ..] -/
def PairsL (H : Hp) (D : Addr) (A : NI) : Prop := ∃ ts : List Addr, H D = some (.lst (ts.map V.ref)) ∧ Paired (fun (t : Addr) (q : Str × Int) => H t = some (.tup [.str q.1, .int q.2])) ts A
theorem paired_kvi {H : Hp} {K : PySem.W.Frag} : ∀ {ts : List Addr} {A : NI}, Paired (fun (t : Addr) (q : Str × Int) => H t = some (.tup [.str q.1, .int q.2])) ts A → Paired (fun p kv => SqT K H p [kV kv.1, kv.2]) ts (A.map kvi)
  | _, _, .nil => .nil
  | _, _, .cons r t => .cons (SqT.of r) (paired_kvi t)
theorem paired_len {α β : Type} {R : α → β → Prop} : ∀ {xs : List α} {ys : List β}, Paired R xs ys → xs.length = ys.length
  | _, _, .nil => rfl
  | _, _, .cons _ t => congrArg Nat.succ (paired_len t)
theorem lcp_of {K : PySem.W.Frag} {σ : L2.St} {H1 : Hp} {l p D : Addr} {ys : List Str} {m : Nat} {tt : TT} {tv : TE} {Qd : Hp → Prop} {S : Nat → Hp → Prop} {good : Str → Int → Prop} {b : Str → Bool}
    (hm : m < σ.length) (hl : SqL K H1 l (ys.map V.str)) (nl : l ≠ p) (hlen : ys.length ≤ 100) (hSe : ∀ n H, S n H → ∃ o, H p = some o) (hS0 : S 0 H1) (hSu : ∀ n H q o, q ≠ p → S n H → S n (upd H q o)) (hSm : ∀ n H, S n H → S (n + 1) H)
    (ht : ∀ x ∈ ys, ∀ (i : Nat) (H' : Hp) (Q' : Bool → Hp → Prop), S i H' → Keep p H1 H' → Q' (b x) H' → tt ((wipe σ [m]).set m (some (.str x))) H' Q')
    (hv : ∀ x ∈ ys, ∀ (i : Nat) (H' : Hp) (Q' : VK), i < ys.length → S i H' → Keep p H1 H' → (∀ (v : Int) (H'' : Hp), good x v → S (i + 1) H'' → Keep p H' H'' → Q' (.int v) H'') → tv ((wipe σ [m]).set m (some (.str x))) H' Q')
    (hD : H1 D = none) (k : ∀ (A : NI) (H' : Hp), Keep p H1 H' → S ys.length H' → ks A = ys.filter b → (∀ q ∈ A, good q.1 q.2) → PairsL H' D A → Qd H') :
    ∃ W : Nat → Nat → Hp → Prop, (∃ m, W 0 m (upd H1 D (.lst []))) ∧ ∀ i m' H, W i m' H → ((Itl K l).stop i H ∧ Qd H) ∨ ((Itl K l).go i H ∧ ∃ Nx : Hp → Prop, (∀ H', Nx H' → ∃ m'', m'' < m' ∧ W (i + 1) m'' H') ∧ ∀ x H', (Itl K l).yld i H x H' → gName m x (wipe σ [m]) H' fun σ2 H2 => wipe σ2 [m] = wipe σ [m] ∧ tt σ2 H2 fun c H3 =>
        if c = true then tTup (tCons (tVar m) (tCons tv tNil)) σ2 H3 fun y H4 => ∃ acc, H4 D = some (.lst acc) ∧ acc.length < sizeLine ∧ Nx (upd H4 D (.lst (acc ++ [y]))) else Nx H3) := by
  obtain ⟨po, hpo⟩ := hSe _ _ hS0
  have nD : D ≠ p := fun e => by rw [e, hpo] at hD; cases hD
  refine lc_list (K := K) (a := l) (xs := ys.map V.str) (Qd := Qd) (fun i H' => S i H' ∧ Keep p H1 H' ∧ ∃ A : NI, ks A = (ys.take i).filter b ∧ (∀ q ∈ A, good q.1 q.2) ∧ ∃ ts : List Addr, H' D = some (.lst (ts.map V.ref)) ∧ Paired (fun (t : Addr) (q : Str × Int) => t ≠ p ∧ H' t = some (.tup [.str q.1, .int q.2])) ts A) ⟨hSu _ _ _ _ nD hS0, Keep.new hD, [], rfl, fun _ h => absurd h List.not_mem_nil, [], upd_same, .nil⟩ (fun i H' _ ⟨_, kp, _⟩ => kp.seq nl hl) ?_ ?_
  · intro i y H' hy ⟨hS, kp, A, hA, hg, ts, hd, hP⟩
    rw [List.getElem?_map] at hy
    obtain ⟨x, ex, ey⟩ := Option.map_eq_some_iff.mp hy
    subst ey
    have hx := List.mem_of_getElem? ex
    have hi : i < ys.length := (List.getElem?_eq_some_iff.mp ex).1
    have wm : m < (wipe σ [m]).length := by rw [wipe_length]; exact hm
    refine ⟨?_, ?_⟩
    · show ((σ.set m none).set m (some (V.str x))).set m none = σ.set m none
      rw [List.set_set, List.set_set]
    refine ht x hx i H' _ hS kp ?_
    have lA : A.length ≤ i := by
      have e1 : (ks A).length = A.length := by unfold ks; rw [List.length_map]
      rw [← e1, hA]
      have := List.length_filter_le b (ys.take i)
      rw [List.length_take] at this
      omega
    cases hb : b x with
    | false =>
      refine iteF ⟨hSm _ _ hS, kp, A, ?_, hg, ts, hd, hP⟩
      rw [hA, List.take_succ, ex, List.filter_append]
      show _ = _ ++ ([x].filter b)
      rw [List.filter_cons_of_neg (by simp [hb]), List.filter_nil, List.append_nil]
    | true =>
      refine iteT ⟨.str x, by rw [List.getElem?_set_self wm], ?_⟩
      refine hv x hx i H' _ hi hS kp fun v H'' hgv hS2 kp2 => ⟨(by show 2 ≤ sizeLine; decide), fun t ht => ?_⟩
      have nDt : ∀ {H2 : Hp}, Keep p H' H2 → H2 D = some (.lst (ts.map V.ref)) := fun kq => kq _ _ nD hd
      have hd2 := nDt kp2
      have nt : t ≠ D := fun e => by rw [e, hd2] at ht; cases ht
      have htp : t ≠ p := fun e => by
        obtain ⟨o, ho⟩ := hSe _ _ hS2
        rw [e, ho] at ht
        cases ht
      refine ⟨_, by rw [upd_ne nt.symm]; exact hd2, ?_, ?_⟩
      · rw [List.length_map, paired_len hP, sizeLine_eq]
        omega
      · refine ⟨hSu _ _ _ _ nD (hSu _ _ _ _ htp hS2), fun c o n e => ?_, A ++ [(x, v)], ?_, ?_, ts ++ [t], ?_, ?_⟩
        · have ncD : c ≠ D := fun e2 => by rw [e2, hD] at e; cases e
          have e3 := kp2 _ _ n (kp _ _ n e)
          rw [upd_ne ncD, upd_ne (ne_of_none e3 ht)]
          exact e3
        · unfold ks at hA ⊢
          rw [List.map_append, hA, List.take_succ, ex, List.filter_append]
          show _ = _ ++ ([x].filter b)
          rw [List.filter_cons_of_pos hb, List.filter_nil]
          rfl
        · intro q hq
          rcases List.mem_append.mp hq with h | h
          · exact hg q h
          · rw [List.mem_singleton.mp h]
            exact hgv
        · rw [upd_same, List.map_append]
          rfl
        · have keepT : ∀ (t' : Addr) (q : Str × Int), (t' ≠ p ∧ H' t' = some (.tup [.str q.1, .int q.2])) → (t' ≠ p ∧ (upd (upd H'' t (.tup [.str x, .int v])) D (.lst (ts.map V.ref ++ [V.ref t]))) t' = some (.tup [.str q.1, .int q.2])) := by
            intro t' q r
            have h1 := kp2 _ _ r.1 r.2
            have h2 : t' ≠ D := fun e => by rw [e, hd2] at h1; cases h1
            refine ⟨r.1, ?_⟩
            rw [upd_ne h2, upd_ne (ne_of_none h1 ht)]
            exact h1
          refine Paired.snoc (paired_same keepT hP) ⟨htp, ?_⟩
          rw [upd_ne nt, upd_same]
  · intro H' ⟨hS, kp, A, hA, hg, ts, hd, hP⟩
    rw [List.length_map] at hS hA
    rw [List.take_length] at hA
    exact k A H' kp hS hA hg ⟨ts, hd, paired_same (fun _ _ r => r.2) hP⟩
end Sl
/-! ## PlanA -/
set_option Elab.async false
set_option linter.all false
set_option maxRecDepth 100000
set_option maxHeartbeats 8000000
namespace Lw
open PySem PySem.Spec PyProof.Rows L2 Sl
section
variable {P : Program} {w : World} {K : PySem.W.Frag} {mg : Str → Option Value} {base : Heap} {f : Addr} {fd : FuncData}
abbrev rLn (K : PySem.W.Frag) : List V → Hp → VK → Prop := fun vs G R => ∃ b zs, vs = [.ref b] ∧ (SqL K G b zs ∨ SqT K G b zs) ∧ R (.int zs.length) G
def natI (is : List Nat) : List V := is.map fun i => V.int ((i : Nat) : Int)
theorem erase_map {α β : Type} (g : α → β) : ∀ (ls : List α) (k : Nat), (ls.map g).eraseIdx k = (ls.eraseIdx k).map g
  | [], _ => rfl
  | _ :: _, 0 => rfl
  | x :: r, k + 1 => by
    show g x :: (r.map g).eraseIdx k = g x :: (r.eraseIdx k).map g
    rw [erase_map g r k]
theorem erase_perm {α : Type} : ∀ (ls : List α) (k : Nat) (h : k < ls.length), (ls[k] :: ls.eraseIdx k).Perm ls
  | [], _, h => absurd h (Nat.not_lt_zero _)
  | _ :: _, 0, _ => List.Perm.refl _
  | x :: r, k + 1, h => by
    have h' : k < r.length := by simpa using h
    show (r[k] :: x :: r.eraseIdx k).Perm (x :: r)
    exact (List.Perm.swap x _ _).trans (List.Perm.cons x (erase_perm r k h'))
def sp_order (K : PySem.W.Frag) : Sp := fun vs H Q _ => ∃ (p : Addr) (m n : Nat), vs = [.ref p, .int (m : Int)] ∧ SrcAt H p n ∧ n ≤ 98000 ∧ m ≤ 60 ∧
  ∀ (q : Addr) (is : List Nat) (H' : Hp), is.Perm (List.range m) → H q = none → H' q = some (.lst (natI is)) → SrcAt H' p (n + m) → Keep p H H' → Q (.ref q) H'
theorem ok_order (F : FnP K "_law_order" s_l_order [] f fd) (D : Cal P w K mg base 1 "_law_draw" [] sp_draw) (mR : mg "range" = none) (mL : mg "list" = none) (mLen : mg "len" = none) : FnOk P w K mg base CX0 2 f fd ["_law_source_here", "_law_many"] (sp_order K) := by
  refine F.ok sc_l_order (fun vs H Q E h => ?_) (fun cdv A outer s H vs Q E hr h => ?_)
  · obtain ⟨p, m, n, rfl, _⟩ := h
    rfl
  · obtain ⟨p, m, n, rfl, hp, hn, hm, k⟩ := h
    have nd := sc_l_order.nd
    refine ⟨_, PSs.nox (pss_cons (ps_set (i := 2) nd rfl (.inr rfl) (pe_listRg rfl (by rfl) mL (prg_1 (by rfl) mR (pv 1))))
      (pss_one (ps_ret (pe_lc (own := [("_law_k", 3)]) (g := gName 3) (tt := tYes) (te := tBM K "list" rPopAt (tVar 2) (tCons (tCall sp_draw [] E0 (tCons (tVar 0) (tCons (tCB (rLn K) (tCons (tVar 2) tNil)) tNil))) tNil)) rfl nd (pi_range1 (by rfl) mR (pa_cons (pv 1) pa_nil)) (blkOk_by (N := ["_law_source_here", "_law_many", "_law_left", "_law_k"]) (sc := defScope s_l_order) (by decide +kernel))
        (fun _ _ _ _ _ => pg_name (i := 3) nd rfl (Or.inl rfl)) (fun _ _ _ _ _ => pts_nil)
        (fun _ _ _ _ _ => pe_bm PySem.F.plainAttrs_list PySem.F.slot_list_pop PySem.F.type_list_pop mt_popAt (pv 2) (pa_cons (pe_cal D hr (pa_cons (pv 0) (pa_cons (pe_callB call_len_seq (by rfl) mLen boot_len (pa_cons (pv 2) pa_nil)) pa_nil))) pa_nil)))))), ?_⟩
    show tSeq (tAsg (tLstRg (tRg1 (tVar 1))) (gName 2)) _ _ [some (V.ref p), some (V.int (m : Int)), none, none] H
    refine asg_of ⟨_, rfl, (m : Int), rfl, .of_le (Int.le_refl 0) (by omega) (by decide) (by omega), fun q0 hq0 => ?_⟩
    have er : rgV 0 (m : Int) = natI (List.range m) := by
      unfold rgV natI
      rw [show ((m : Int) - 0).toNat = m by omega]
      refine List.map_congr_left fun i _ => ?_
      rw [Int.zero_add]
    rw [er]
    obtain ⟨po, hpo⟩ := hp.there
    have nq0 : q0 ≠ p := fun e => by rw [e, hpo] at hq0; cases hq0
    have hp0 := hp.new (o := .lst (natI (List.range m))) hq0
    have k0 : Keep p H (upd H q0 (.lst (natI (List.range m)))) := Keep.new hq0
    have e0 : (upd H q0 (.lst (natI (List.range m)))) q0 = some (.lst (natI (List.range m))) := upd_same
    show tRet (tLc (iRng1 (tCons (tVar 1) tNil)) (gName 3) tYes (tBM K "list" rPopAt (tVar 2) (tCons (tCall sp_draw [] E0 (tCons (tVar 0) (tCons (tCB (rLn K) (tCons (tVar 2) tNil)) tNil))) tNil)) [3]) _ [some (V.ref p), some (V.int (m : Int)), some (V.ref q0), none] _
    generalize upd H q0 (.lst (natI (List.range m))) = H1 at hp0 k0 e0
    refine ⟨_, rfl, (m : Int), rfl, by omega, by omega, fun D hD => ?_⟩
    have nDp : D ≠ p := fun e => by
      obtain ⟨o, ho⟩ := hp0.there
      rw [e, ho] at hD
      cases hD
    have nDq : D ≠ q0 := fun e => by rw [e, e0] at hD; cases hD
    have ln : ∀ is : List Nat, (natI is).length = is.length := fun is => by unfold natI; rw [List.length_map]
    refine lc_range (lo := 0) (n := m) (fun i H' => SrcAt H' p (n + i) ∧ Keep p H H' ∧ ∃ ls is : List Nat, H' q0 = some (.lst (natI ls)) ∧ H' D = some (.lst (natI is)) ∧ (is ++ ls).Perm (List.range m) ∧ is.length = i)
      ⟨hp0.new hD, k0.trans (Keep.new hD), List.range m, [], by rw [upd_ne nDq.symm]; exact e0, upd_same, List.Perm.refl _, rfl⟩ ?_ ?_
    · intro i H' hi ⟨hp1, kp, ls, is, hls, his, pm, li⟩
      have ll : ls.length = m - i := by
        have := pm.length_eq
        rw [List.length_append, List.length_range] at this
        omega
      refine ⟨rfl, yes_of (iteT ?_)⟩
      refine ⟨_, rfl, .inl ⟨rfl, _, SqL.of hls⟩, _, rfl, _, rfl, q0, _, rfl, .inl (SqL.of hls), p, _, n + i, rfl, hp1, by omega, by rw [ln]; omega, (by rw [ln, ll]; exact Int.lt_trans (show ((m - i : Nat) : Int) < 100 by omega) (by decide +kernel)), fun j H2 j0 j1 hp2 k2 => ?_⟩
      rw [ln] at j1
      have hj : j.toNat < ls.length := by omega
      have sx : seqIndex? j (natI ls).length = some j.toNat := by
        have h1 : ¬ j < 0 := by omega
        unfold seqIndex?
        rw [ln]
        dsimp only
        rw [if_neg h1, decide_eq_true j0, decide_eq_true j1]
        rfl
      refine ⟨q0, natI ls, j, j.toNat, .int ((ls[j.toNat] : Nat) : Int), rfl, rfl, k2 _ _ nq0 hls, by omega, by omega, sx, ?_, ?_⟩
      · unfold natI
        rw [List.getElem?_map, List.getElem?_eq_getElem hj]
        rfl
      · have hD2 := k2 _ _ nDp his
        refine ⟨natI is, by rw [upd_ne nDq]; exact hD2, by rw [ln, li, sizeLine_eq]; omega, ?_, ?_, ls.eraseIdx j.toNat, is ++ [ls[j.toNat]], ?_, ?_, ?_, ?_⟩
        · obtain ⟨g, sd, cc, e, z⟩ := hp2
          exact ⟨g, sd, cc, by rw [upd_ne nDp.symm, upd_ne nq0.symm]; exact e, z⟩
        · intro b o nb e
          have nbq : b ≠ q0 := fun e2 => by rw [e2, hq0] at e; cases e
          have nbD : b ≠ D := fun e2 => by
            have h1 := k0 _ _ nb e
            rw [e2, hD] at h1
            cases h1
          rw [upd_ne nbD, upd_ne nbq]
          exact k2 _ _ nb (kp _ _ nb e)
        · rw [upd_ne nDq.symm, upd_same]
          unfold natI
          rw [erase_map]
        · rw [upd_same]
          unfold natI
          rw [List.map_append]
          rfl
        · rw [List.append_assoc]
          exact (List.Perm.append_left is (erase_perm ls j.toNat hj)).trans pm
        · rw [List.length_append, li]
          rfl
    · intro H' ⟨hp1, kp, ls, is, hls, his, pm, li⟩
      have l0 : ls = [] := by
        have := pm.length_eq
        rw [List.length_append, List.length_range, li] at this
        exact List.length_eq_zero_iff.mp (by omega)
      rw [l0, List.append_nil] at pm
      have fr : H D = none := by
        cases e : H D with
        | none => rfl
        | some o => rw [k0 _ _ nDp e] at hD; cases hD
      exact k D is H' pm fr his hp1 kp
def sp_subset (K : PySem.W.Frag) : Sp := fun vs H Q _ => ∃ (p l : Addr) (xs : List V) (n : Nat), vs = [.ref p, .ref l] ∧ SrcAt H p n ∧ n ≤ 98000 ∧ SqL K H l xs ∧ l ≠ p ∧ xs.length ≤ 60 ∧
  ∀ (q : Addr) (zs : List V) (H' : Hp), zs.Sublist xs → H q = none → H' q = some (.lst zs) → SrcAt H' p (n + xs.length) → Keep p H H' → Q (.ref q) H'
theorem ok_subset (F : FnP K "_law_subset" s_l_subset [] f fd) (D : Cal P w K mg base 1 "_law_draw" [] sp_draw) : FnOk P w K mg base CX0 2 f fd ["_law_source_here", "_law_row"] (sp_subset K) := by
  refine F.ok sc_l_subset (fun vs H Q E h => ?_) (fun cdv A outer s H vs Q E hr h => ?_)
  · obtain ⟨p, l, xs, n, rfl, _⟩ := h
    rfl
  · obtain ⟨p, l, xs, n, rfl, hp, hn, hl, nl, hx, k⟩ := h
    have nd := sc_l_subset.nd
    refine ⟨_, PSs.nox (pss_one (ps_ret (pe_lc (own := [("_law_one", 2)]) (g := gName 2) rfl nd (pi_list (pv 1)) (blkOk_by (N := ["_law_source_here", "_law_row", "_law_one"]) (sc := defScope s_l_subset) (by decide +kernel))
        (fun _ _ _ _ _ => pg_name (i := 2) nd rfl (Or.inl rfl)) (fun _ _ _ _ _ => pts_one (pt_cmpR op_eq (pe_cal D hr (pa_cons (pv 0) (pa_cons pe_int pa_nil))) pe_int (nomark _))) (fun _ _ _ _ _ => pv 2)))), ?_⟩
    refine ⟨_, rfl, l, rfl, ⟨_, hl⟩, fun Dd hD => ?_⟩
    obtain ⟨po, hpo⟩ := hp.there
    have nD : Dd ≠ p := fun e => by rw [e, hpo] at hD; cases hD
    refine lc_list (K := K) (a := l) (xs := xs) (fun i H' => SrcAt H' p (n + i) ∧ Keep p H H' ∧ ∃ zs : List V, zs.Sublist (xs.take i) ∧ H' Dd = some (.lst zs)) ⟨hp.new hD, Keep.new hD, [], List.Sublist.refl _, upd_same⟩ (fun i H' _ ⟨_, kp, _⟩ => kp.seq nl hl) ?_ ?_
    · intro i y H' hy ⟨hp1, kp, zs, sz, hz⟩
      have hi : i < xs.length := (List.getElem?_eq_some_iff.mp hy).1
      refine ⟨rfl, test_of (draw_of rfl hp1 (by omega) (by decide) (by decide +kernel) fun j H2 j0 j1 hp2 k2 => ⟨rfl, _, rfl, ite_of (fun _ => ?_) (fun _ => ?_)⟩)⟩
      · have lz : zs.length ≤ 60 := by
          have h1 := sz.length_le
          rw [List.length_take] at h1
          omega
        refine ⟨_, rfl, zs, k2 _ _ nD hz, by rw [sizeLine_eq]; omega, ?_, ?_, zs ++ [y], ?_, upd_same⟩
        · obtain ⟨g, sd, cc, e, z⟩ := hp2
          exact ⟨g, sd, cc, by rw [upd_ne nD.symm]; exact e, z⟩
        · intro b o nb e
          have nbD : b ≠ Dd := fun e2 => by rw [e2, hD] at e; cases e
          rw [upd_ne nbD]
          exact k2 _ _ nb (kp _ _ nb e)
        · rw [List.take_succ, hy]
          exact List.Sublist.append sz (List.Sublist.refl _)
      · refine ⟨hp2, kp.trans k2, zs, ?_, k2 _ _ nD hz⟩
        rw [List.take_succ]
        exact sz.trans (List.sublist_append_left _ _)
    · intro H' ⟨hp1, kp, zs, sz, hz⟩
      rw [List.take_length] at sz
      exact k Dd zs H' sz hD hz hp1 kp
end
end Lw
/-! ## PlanB -/
set_option Elab.async false
set_option linter.all false
set_option maxRecDepth 100000
set_option maxHeartbeats 8000000
namespace Lw
open PySem PySem.Spec PyProof.Rows L2 Sl
section
variable {P : Program} {w : World} {K : PySem.W.Frag} {mg : Str → Option Value} {base : Heap} {f : Addr} {fd : FuncData}
def sp_some (K : PySem.W.Frag) : Sp := fun vs H Q _ => ∃ (p l : Addr) (xs : List V) (n : Nat), vs = [.ref p, .ref l] ∧ SrcAt H p n ∧ n ≤ 97000 ∧ SqL K H l xs ∧ l ≠ p ∧ 1 ≤ xs.length ∧ xs.length ≤ 60 ∧
  ∀ (q : Addr) (F zs : List V) (H' : Hp), F.Perm xs → zs.Sublist F → 1 ≤ zs.length → H q = none → H' q = some (.lst zs) → SrcAt H' p (n + xs.length + 1) → Keep p H H' → Q (.ref q) H'
theorem ok_some (F : FnP K "_law_some" s_l_some [] f fd) (D : Cal P w K mg base 1 "_law_draw" [] sp_draw) (O : Cal P w K mg base 2 "_law_order" [] (sp_order K)) (mLen : mg "len" = none) : FnOk P w K mg base CX0 3 f fd ["_law_source_here", "_law_things"] (sp_some K) := by
  refine F.ok sc_l_some (fun vs H Q E h => ?_) (fun cdv A outer s H vs Q E hr h => ?_)
  · obtain ⟨p, l, xs, n, rfl, _⟩ := h
    rfl
  · obtain ⟨p, l, xs, n, rfl, hp, hn, hl, nl, h1, hx, k⟩ := h
    have nd := sc_l_some.nd
    have hr1 := hr.mono (show 1 ≤ 2 by decide)
    refine ⟨_, PSs.nox (pss_cons (ps_setLc (i := 2) (own := [("_law_k", 3)]) (g := gName 3) (tt := tYes) (te := tOp (rIxL K) (tVar 1) (tVar 3)) rfl nd rfl rfl (sw_true rfl rfl rfl (by decide +kernel)) (pi_list (pe_cal O hr (pa_cons (pv 0) (pa_cons (pe_callB (r := rLn K) call_len_seq (by rfl) mLen boot_len (pa_cons (pv 1) pa_nil)) pa_nil))))
        (blkOk_by (N := ["_law_source_here", "_law_things", "_law_found", "_law_k"]) (sc := defScope s_l_some) (by decide +kernel)) (fun _ _ _ _ _ => pg_name (i := 3) nd rfl (Or.inl rfl)) (fun _ _ _ _ _ => pts_nil) (fun _ _ _ _ _ => pe_ix (r := rIxL K) ix_list (pv 1) (pv 3) (fun _ _ => rfl)))
      (pss_one (ps_ret (pe_slice sl_list (pv 2) po_none (po_some (pe_op op_add pe_int (pe_cal D hr1 (pa_cons (pv 0) (pa_cons (pe_callB (r := rLn K) call_len_seq (by rfl) mLen boot_len (pa_cons (pv 2) pa_nil)) pa_nil))))))))), ?_⟩
    show tSeq (tAsg (tLc (iList K (tCall (sp_order K) [] E0 (tCons (tVar 0) (tCons (tCB (rLn K) (tCons (tVar 1) tNil)) tNil)))) (gName 3) tYes (tOp (rIxL K) (tVar 1) (tVar 3)) [3]) (gName 2)) _ _ [some (V.ref p), some (V.ref l), none, none] H
    refine asg_of ⟨_, rfl, _, rfl, l, xs, rfl, .inl hl, p, xs.length, n, rfl, hp, by omega, by omega, fun q is H1 pm hq hqe hp1 kp1 => ?_⟩
    obtain ⟨po, hpo⟩ := hp.there
    refine ⟨q, rfl, ⟨_, SqL.of hqe⟩, fun Dd hD => ?_⟩
    have nD : Dd ≠ p := fun e => by
      obtain ⟨o, ho⟩ := hp1.there
      rw [e, ho] at hD
      cases hD
    have hl1 := kp1.seq nl hl
    refine lc_list (K := K) (a := q) (xs := natI is) (fun i H' => Same H1 H' ∧ H' Dd = some (.lst ((is.take i).map fun j => xs.getD j .non))) ⟨same_new hD, upd_same⟩ (fun i H' _ ⟨s2, _⟩ => SqL.of (s2 _ _ hqe)) ?_ ?_
    · intro i y H' hy ⟨s2, hz⟩
      unfold natI at hy
      rw [List.getElem?_map] at hy
      obtain ⟨j, ej, ey⟩ := Option.map_eq_some_iff.mp hy
      subst ey
      have hj : j < xs.length := List.mem_range.mp (pm.mem_iff.mp (List.mem_of_getElem? ej))
      refine ⟨rfl, yes_of (iteT ⟨_, rfl, _, rfl, l, xs, (j : Int), xs.getD j .non, rfl, rfl, sq_same hl1 s2, ?_, _, hz, ?_, ?_, ?_⟩)⟩
      · refine atI_nat ?_
        rw [List.getD_eq_getElem?_getD, List.getElem?_eq_getElem hj]
        rfl
      · rw [List.length_map, List.length_take, sizeLine_eq]
        have := pm.length_eq
        rw [List.length_range] at this
        omega
      · intro c o e
        rw [upd_ne (ne_of_none e hD)]
        exact s2 _ _ e
      · rw [upd_same, List.take_succ, ej, List.map_append]
        rfl
    · intro H2 ⟨s2, hz⟩
      have et : (is.take (natI is).length) = is := by
        unfold natI
        rw [List.length_map]
        exact List.take_length
      rw [et] at hz
      have eF : (List.range xs.length).map (fun j => xs.getD j V.non) = xs := by
        refine List.ext_getElem? fun i => ?_
        rw [List.getElem?_map]
        by_cases hi : i < xs.length
        · rw [List.getElem?_range hi, List.getElem?_eq_getElem hi]
          show some (xs.getD i V.non) = _
          rw [List.getD_eq_getElem?_getD, List.getElem?_eq_getElem hi]
          rfl
        · rw [List.getElem?_eq_none (by rw [List.length_range]; omega), List.getElem?_eq_none (by omega)]
          rfl
      have pF : (is.map fun j => xs.getD j V.non).Perm xs := by
        have := pm.map (fun j => xs.getD j V.non)
        rwa [eF] at this
      have hp2 : SrcAt H2 p (n + xs.length) := by
        obtain ⟨g, sd, cc, e, z⟩ := hp1
        exact ⟨g, sd, cc, s2 _ _ e, z⟩
      have k2 : Keep p H H2 := kp1.trans (Keep.of_same s2)
      have frD : H Dd = none := by
        cases e : H Dd with
        | none => rfl
        | some o => rw [kp1 _ _ nD e] at hD; cases hD
      have lF := pF.length_eq
      generalize (is.map fun j => xs.getD j V.non) = FF at hz pF lF
      show tRet (tSl (rSlL K) (tVar 2) tNoPart (tPart (tOp (rI0 fun i j => .int (i + j)) (tC (.int 1)) (tCall sp_draw [] E0 (tCons (tVar 0) (tCons (tCB (rLn K) (tCons (tVar 2) tNil)) tNil)))))) _ [some (V.ref p), some (V.ref l), some (V.ref Dd), none] H2
      refine ⟨_, rfl, _, rfl, _, rfl, Dd, FF, rfl, .inl (SqL.of hz), p, _, n + xs.length, rfl, hp2, by omega, by omega, Int.lt_trans (show ((FF.length : Nat) : Int) < 100 by omega) (by decide +kernel), fun j H3 j0 j1 hp3 k3 => ?_⟩
      refine ⟨1, j, rfl, rfl, 1 + j, rfl, Dd, FF, rfl, SqL.of (k3 _ _ nD hz), fun q2 hq2 => ?_⟩
      have hs : HT.sIx FF.length FF.length (some (1 + j)) = (1 + j).toNat := by
        have e : (1 + j) = (((1 + j).toNat : Nat) : Int) := by omega
        rw [e, HT.sIx_nat]
        omega
      obtain ⟨o3, ho3⟩ := hp3.there
      have nq2 : q2 ≠ p := fun e => by rw [e, ho3] at hq2; cases hq2
      have fr2 : H q2 = none := by
        cases e : H q2 with
        | none => rfl
        | some o => rw [k3 _ _ nq2 (k2 _ _ nq2 e)] at hq2; cases hq2
      refine k q2 FF _ _ pF ?_ ?_ fr2 upd_same (hp3.new hq2) ((k2.trans k3).trans (Keep.new hq2))
      · unfold cutV
        rw [HT.sIx_none, List.drop_zero]
        exact List.take_sublist _ _
      · unfold cutV
        rw [HT.sIx_none, List.drop_zero, hs, List.length_take]
        omega
end
end Lw
/-! ## LwA -/
set_option Elab.async false
set_option linter.all false
set_option maxRecDepth 100000
set_option maxHeartbeats 8000000
set_option pp.deepTerms false
set_option pp.deepTerms.threshold 3
set_option pp.maxSteps 500
namespace Sl
open PySem PySem.Spec PyProof.Rows L2
theorem SrcAt.upd_ne' {H : Hp} {p q : Addr} {n : Nat} {o : HO} (h : SrcAt H p n) (ne : q ≠ p) : SrcAt (L2.upd H q o) p n := by
  obtain ⟨g, s, c, e, a⟩ := h
  exact ⟨g, s, c, by rw [upd_ne ne.symm]; exact e, a⟩
theorem strs_tame (xs : List Str) : (xs.map V.str).all Sl.tame = true := by
  rw [List.all_map]
  exact List.all_eq_true.mpr fun _ _ => rfl
theorem keyV (A : NI) : ((A.map kvi).map fun kv => kV kv.1) = (ks A).map V.str := by
  unfold ks
  rw [List.map_map, List.map_map]
  rfl
theorem filt_true (xs : List Str) : (xs.filter fun _ => true) = xs := List.filter_eq_self.mpr fun _ _ => rfl
end Sl
namespace Lw
open PySem PySem.Spec PyProof.Rows L2 Sl
section
variable {P : Program} {w : World} {K : PySem.W.Frag} {mg : Str → Option Value} {base : Heap} {f : Addr} {fd : FuncData} {C : Addr}
def lots (xs : List Str) : List Str := (xs.map fun x => ("old." : Str) ++ x) ++ (xs.map fun x => ("new." : Str) ++ x)
def sp_lots (K : PySem.W.Frag) : Sp := fun vs H Q _ => ∃ (l : Addr) (xs : List Str), vs = [.ref l] ∧ SqL K H l (xs.map V.str) ∧ xs.length ≤ 20 ∧ (∀ x ∈ xs, x.length ≤ 8) ∧ ∀ (q : Addr) (H' : Hp), Same H H' → H q = none → H' q = some (.lst ((lots xs).map V.str)) → Q (.ref q) H'
theorem pre_of {H1 : Hp} {l D : Addr} {xs : List Str} {a : Str} {m : Nat} {σ : L2.St} {Qd : Hp → Prop} {K : PySem.W.Frag} (hm : m < σ.length) (hl : SqL K H1 l (xs.map V.str)) (hz : xs.length ≤ 20) (h8 : ∀ x ∈ xs, x.length ≤ 8) (ha : a.length ≤ 10) (hD : H1 D = none)
    (k : ∀ H', Same H1 H' → H' D = some (.lst ((xs.map fun x => a ++ x).map V.str)) → Qd H') :
    ∃ W : Nat → Nat → Hp → Prop, (∃ m, W 0 m (upd H1 D (.lst []))) ∧ ∀ i m' H, W i m' H → ((Itl K l).stop i H ∧ Qd H) ∨ ((Itl K l).go i H ∧ ∃ Nx : Hp → Prop, (∀ H', Nx H' → ∃ m'', m'' < m' ∧ W (i + 1) m'' H') ∧ ∀ x H', (Itl K l).yld i H x H' → gName m x (wipe σ [m]) H' fun σ2 H2 => wipe σ2 [m] = wipe σ [m] ∧ tYes σ2 H2 fun c H3 =>
        if c = true then tOp rAddS (tC (.str a)) (tVar m) σ2 H3 fun y H4 => ∃ acc, H4 D = some (.lst acc) ∧ acc.length < sizeLine ∧ Nx (upd H4 D (.lst (acc ++ [y]))) else Nx H3) := by
  refine lc_list (K := K) (a := l) (xs := xs.map V.str) (Qd := Qd) (fun i H' => Same H1 H' ∧ H' D = some (.lst (((xs.take i).map fun x => a ++ x).map V.str))) ⟨same_new hD, upd_same⟩ (fun i H' _ ⟨s, _⟩ => sq_same hl s) ?_ ?_
  · rintro i y H' hy ⟨s, hd⟩
    rw [List.getElem?_map] at hy
    obtain ⟨x, ex, ey⟩ := Option.map_eq_some_iff.mp hy
    subst ey
    have lx := h8 x (List.mem_of_getElem? ex)
    refine ⟨?_, yes_of (iteT ⟨.str x, ?_, a, x, rfl, rfl, by rw [sizeLine_eq]; omega, _, hd, ?_, ?_, ?_⟩)⟩
    · show ((σ.set m none).set m (some (V.str x))).set m none = σ.set m none
      rw [List.set_set, List.set_set]
    · rw [List.getElem?_set_self (by rw [wipe_length]; exact hm)]
    · rw [List.length_map, List.length_map, List.length_take, sizeLine_eq]
      omega
    · intro c o e
      rw [upd_ne (ne_of_none e hD)]
      exact s _ _ e
    · rw [upd_same, List.take_succ, ex, List.map_append, List.map_append]
      rfl
  · rintro H' ⟨s, hd⟩
    rw [List.length_map, List.take_length] at hd
    exact k H' s hd
theorem ok_lots (F : FnP K "_law_lots" s_l_lots [] f fd) : FnOk P w K mg base CX0 1 f fd ["_law_kinds"] (sp_lots K) := by
  refine F.ok sc_l_lots (fun vs H Q E h => ?_) (fun cdv A outer s H vs Q E hr h => ?_)
  · obtain ⟨l, xs, rfl, _⟩ := h
    rfl
  · obtain ⟨l, xs, rfl, hl, hz, h8, k⟩ := h
    have nd := sc_l_lots.nd
    refine ⟨_, PSs.nox (pss_one (ps_ret (pe_op op_cat (pe_lc (own := [("_law_kind", 1)]) (g := gName 1) (tt := tYes) (te := tOp rAddS (tC (.str "old.")) (tVar 1)) rfl nd (pi_list (pv 0)) (blkOk_by (N := ["_law_kinds", "_law_kind"]) (sc := defScope s_l_lots) (by decide +kernel)) (fun _ _ _ _ _ => pg_name (i := 1) nd rfl (Or.inl rfl)) (fun _ _ _ _ _ => pts_nil) (fun _ _ _ _ _ => pe_op op_add_str pe_str (pv 1)))
      (pe_lc (own := [("_law_kind", 1)]) (g := gName 1) (tt := tYes) (te := tOp rAddS (tC (.str "new.")) (tVar 1)) rfl nd (pi_list (pv 0)) (blkOk_by (N := ["_law_kinds", "_law_kind"]) (sc := defScope s_l_lots) (by decide +kernel)) (fun _ _ _ _ _ => pg_name (i := 1) nd rfl (Or.inl rfl)) (fun _ _ _ _ _ => pts_nil) (fun _ _ _ _ _ => pe_op op_add_str pe_str (pv 1)))))), ?_⟩
    refine ⟨_, rfl, l, rfl, ⟨_, hl⟩, fun D1 hD1 => pre_of (a := "old.") (σ := [some (V.ref l), none]) (by show 1 < 2; decide) hl hz h8 (by decide +kernel) hD1 fun H1 s1 e1 => ?_⟩
    refine ⟨_, rfl, l, rfl, ⟨_, sq_same hl s1⟩, fun D2 hD2 => pre_of (a := "new.") (σ := [some (V.ref l), none]) (by show 1 < 2; decide) (sq_same hl s1) hz h8 (by decide +kernel) hD2 fun H2 s2 e2 => ?_⟩
    refine ⟨D1, D2, _, _, rfl, rfl, s2 _ _ e1, e2, ?_, fun q hq => ?_⟩
    · simp only [List.length_map]
      rw [sizeLine_eq]
      omega
    · have s12 := s1.trans s2
      refine k q _ (s12.trans (same_new hq)) (free_same s12 hq) ?_
      rw [upd_same, ← List.map_append]
      rfl
def sp_big : Sp := fun vs H Q _ => ∃ (p : Addr) (n : Nat), vs = [.ref p] ∧ SrcAt H p n ∧ n ≤ 97000 ∧ ∀ (i : Int) (H' : Hp), i.natAbs < 2 ^ 100 → SrcAt H' p (n + 1) → Keep p H H' → Q (.int i) H'
theorem ok_big (F : FnP K "_law_big" s_l_big [] f fd) (D : Cal P w K mg base 1 "_law_draw" [] sp_draw) : FnOk P w K mg base CX0 2 f fd ["_law_source_here"] sp_big := by
  refine F.ok sc_l_big (fun vs H Q E h => ?_) (fun cdv A outer s H vs Q E hr h => ?_)
  · obtain ⟨p, n, rfl, _⟩ := h
    rfl
  · obtain ⟨p, n, rfl, hp, hn, k⟩ := h
    refine ⟨_, PSs.nox (pss_one (ps_ret (pe_ix ix_list (pe_lst (pa_cons pe_int (pa_cons pe_int (pa_cons (pe_un un_neg pe_int) (pa_cons pe_int (pa_cons (pe_op op_pow pe_int pe_int) (pa_cons (pe_op op_sub pe_int (pe_op op_mul pe_int (pe_op op_pow pe_int pe_int))) pa_nil)))))))
      (pe_cal D hr (pa_cons (pv 0) (pa_cons pe_int pa_nil))) (fun _ _ => rfl)))), ?_⟩
    refine ⟨_, rfl, _, _, rfl, rfl, ⟨by decide, by decide, by decide⟩, _, _, rfl, rfl, ⟨by decide, by decide, by decide⟩, _, _, rfl, rfl, .inl (by decide), _, _, rfl, rfl, (by show 6 ≤ sizeLine; decide), fun a ha => ?_⟩
    obtain ⟨po, hpo⟩ := hp.there
    have na : a ≠ p := fun e => by rw [e, hpo] at ha; cases ha
    refine draw_of rfl (hp.new ha) (by omega) (by decide) (by decide +kernel) fun j2 H2 j20 j21 hp2 k2 => ?_
    obtain ⟨v, hv, mv⟩ := at_in (xs := [V.int 0, .int 1, .int (-1), .int 3, .int ((10 : Int) ^ (30 : Int).toNat), .int (0 - 7 * (10 : Int) ^ (20 : Int).toNat)]) j20 j21
    refine ⟨a, _, j2, v, rfl, rfl, SqL.of (k2 _ _ na upd_same), hv, ?_⟩
    have hi : ∃ i : Int, v = .int i ∧ i.natAbs < 2 ^ 100 := by
      simp only [List.mem_cons, List.not_mem_nil, or_false] at mv
      rcases mv with h | h | h | h | h | h <;> subst h <;> exact ⟨_, rfl, by decide +kernel⟩
    obtain ⟨i, rfl, hi0⟩ := hi
    exact k i H2 hi0 hp2 ((Keep.new ha).trans k2)
def sp_less : Sp := fun vs H Q _ => ∃ (d : Addr) (N : NI), vs = [.ref d] ∧ H d = some (dI N) ∧ (ks N).Nodup ∧ N.length ≤ 60 ∧
  ∀ (d' : Addr) (L : NI) (H' : Hp), H d' = none → Same H H' → H' d' = some (dI L) → Prt L N → Q (.ref d') H'
theorem ok_less (F : FnP K "_law_less" s_l_less [] f fd) (mD : mg "dict" = none) (mS : mg "sorted" = none) : FnOk P w K mg base CX0 1 f fd ["_law_parts"] sp_less := by
  refine F.ok sc_l_less (fun vs H Q E h => ?_) (fun cdv A outer s H vs Q E hr h => ?_)
  · obtain ⟨d, N, rfl, _⟩ := h
    rfl
  · obtain ⟨d, N, rfl, hd, hnd, hl, k⟩ := h
    have nd := sc_l_less.nd
    have hu := hu_of hr
    refine ⟨_, PSs.nox (pss_one (ps_ret (pe_callTy (call_dictP rfl) (by rfl) mD (by decide +kernel) (pa_cons (pe_lc (own := [("_law_word", 1)]) (g := gName 1) rfl nd (pi_list (pe_callB (call_sortedD rfl) (by rfl) mS (by decide +kernel) (pa_cons (pv 0) pa_nil)))
        (blkOk_by (N := ["_law_parts", "_law_word"]) (sc := defScope s_l_less) (by decide +kernel)) (fun _ _ _ _ _ => pg_name (i := 1) nd rfl (Or.inl rfl)) (fun _ _ _ _ _ => pts_one (pt_cmpR op_ne (pe_dget hu (pv 0) (pv 1) (fun _ _ => rfl)) pe_int (nomark _)))
        (fun _ _ _ _ _ => pe_tup (pa_cons (pv 1) (pa_cons (pe_dget hu (pv 0) (pv 1) (fun _ _ => rfl)) pa_nil)))) pa_nil)))), ?_⟩
    refine ⟨_, rfl, d, N.map kvi, ks N, rfl, .inl hd, keys_kvi N, (by rw [ks_len]; omega), fun ys p pm so hp => ?_⟩
    refine ⟨p, rfl, ⟨_, SqL.of upd_same⟩, fun D hD => ?_⟩
    have np : p ≠ d := fun e => by rw [e, hd] at hp; cases hp
    have hd1 : (upd H p (.lst (ys.map V.str))) d = some (dI N) := by rw [upd_ne np.symm]; exact hd
    have ny : ys.Nodup := pm.nodup_iff.mpr hnd
    have ly : ys.length = N.length := by rw [pm.length_eq, ks_len]
    refine lcp_of (K := K) (σ := [some (V.ref d), none]) (p := d) (S := fun _ H' => H' d = some (dI N)) (good := fun x v => v = get0 N x) (b := fun x => decide (get0 N x ≠ 0)) (by show 1 < 2; decide) (SqL.of upd_same) np (by omega) (fun _ _ h => ⟨_, h⟩) hd1 (fun _ H q o ne h => by rw [upd_ne ne.symm]; exact h) (fun _ _ h => h)
      (fun x hx i H' Q' hS kp q => ?_) (fun x hx i H' Q' hi hS kp kk => ?_) hD ?_
    · have dg := DGet.k (k := .inr x) hS
      rw [valV_kvi, get?_in (pm.mem_iff.mp hx)] at dg
      refine test_of ⟨_, rfl, _, rfl, d, .int (get0 N x), rfl, dg, rfl, _, rfl, ?_⟩
      have e : (!decide (V.int (get0 N x) = V.int 0)) = decide (get0 N x ≠ 0) := by
        by_cases h : get0 N x = 0
        · rw [h]
          rfl
        · rw [decide_eq_true h, decide_eq_false (fun e => h (V.int.inj e))]
          rfl
      rw [e]
      exact q
    · have dg := DGet.k (k := .inr x) hS
      rw [valV_kvi, get?_in (pm.mem_iff.mp hx)] at dg
      exact ⟨_, rfl, _, rfl, d, .int (get0 N x), rfl, dg, kk _ H' rfl hS (Keep.refl _ _)⟩
    intro A1 H1 kp1 hS1 hk1 hg1 ⟨ts, hdD, hP⟩
    have nA : (ks A1).Nodup := by rw [hk1]; exact List.Nodup.sublist List.filter_sublist ny
    refine ⟨D, ts, A1.map kvi, rfl, SqL.of hdD, paired_kvi hP, fun d' hd' => ?_⟩
    rw [mergeK_nil nA]
    have s1 : Same H H1 := fun c o e => by
      by_cases ec : c = d
      · subst ec
        rw [hd] at e
        rw [← Option.some.inj e]
        exact hS1
      · exact kp1 _ _ ec (same_new hp _ _ e)
    have eA : A1 = lessL N ys := by
      rw [eq_map_get nA, hk1]
      unfold lessL
      refine List.map_congr_left fun x hx => ?_
      have hx' : x ∈ ks A1 := by rw [hk1]; exact hx
      obtain ⟨q, hq, e⟩ := List.mem_map.mp hx'
      have := val_of nA hq
      rw [← e]
      show (q.1, get0 A1 q.1) = (q.1, get0 N q.1)
      rw [this, hg1 q hq]
    subst eA
    exact k d' _ _ (free_same s1 hd') (s1.trans (same_new hd')) upd_same ⟨lessL_cn hnd pm so, lessL_get hnd pm, fun x => lessL_sub pm, lessL_len pm⟩
structure Meths (P : Program) (w : World) (K : PySem.W.Frag) (mg : Str → Option Value) (base : Heap) (C : Addr) : Prop where
  parts : CalM P w K mg base C 1 "parts" (sp_fparts C)
  of_ : CalM P w K mg base C 1 "of" (sp_fof C)
  int : CalP P w K mg base C 1 "integer" (sp_fint C)
theorem dicEq_self {A : NI} (h : (ks A).Nodup) : dicEq (A.map kvi) (A.map kvi) = true := (eqI_iff h h).mpr fun _ => rfl
abbrev rightN : List Str := ["_law_form", "_law_parts", "_law_number", "_law_worths", "_law_due", "_law_word"]
def sp_isright (C : Addr) : Sp := fun vs H Q _ => ∃ (t d e : Addr) (A N W : NI) (n : Int), vs = [.ref t, .ref d, .int n, .ref e] ∧ FormAt H C t A n ∧ H d = some (dI N) ∧ H e = some (dI W) ∧ (ks N).Nodup ∧ N.length ≤ 60 ∧ Cn A ∧ (∀ x, get0 A x = get0 N x) ∧ bd 700 A ∧ bd 700 W ∧ ∀ H', Same H H' → Q (.bl true) H'
theorem ok_is_right (F : FnP K "_law_is_right" s_l_is_right [] f fd) (Ls : Cal P w K mg base 1 "_law_less" [] sp_less) (M : Meths P w K mg base C) (cl : Cls K C) (mL : mg "list" = none) (mS : mg "sum" = none) : FnOk P w K mg base CX0 3 f fd ["_law_form", "_law_parts", "_law_number", "_law_worths"] (sp_isright C) := by
  refine F.ok sc_l_is_right (fun vs H Q E h => ?_) (fun cdv A outer s H vs Q E hr h => ?_)
  · obtain ⟨t, d, e, A, N, W, n, rfl, _⟩ := h
    rfl
  · obtain ⟨t, d, e, A, N, W, n, rfl, hf, hd, he, hnd, hl, cA, gA, bA, bW, k⟩ := h
    have nd := sc_l_is_right.nd
    have hu := hu_of hr
    have hu' := Nat.lt_of_succ_lt hu
    have hr1 := hr.mono (show 1 ≤ 2 by decide)
    refine ⟨_, PSs.nox (pss_cons (ps_set (i := 4) nd rfl (.inr rfl) (pe_cal Ls hr1 (pa_cons (pv 1) pa_nil)))
      (pss_cons (ps_if (PW.pt (pw_or (pt_cmpR (op_neDic hu') (pe_me0 M.parts cl hr1 (pv 0)) (pv 4) (nomark _)) (pw_or (pt_cmpR (op_neS hu') (pe_callTy (call_listD rfl) (by rfl) mL (by decide +kernel) (pa_cons (pe_me0 M.parts cl hr1 (pv 0)) pa_nil)) (pe_callTy (call_listD rfl) (by rfl) mL (by decide +kernel) (pa_cons (pv 4) pa_nil)) (nomark _)) (pw_or1 (pt_cmpR op_ne (pe_pr M.int cl hr (pv 0)) (pv 2) (nomark _)))))) (pss_one (ps_ret pe_bl)) pss_nil)
      (pss_one (ps_ret (pe_cmpR op_eq (pe_me1 M.of_ cl hr1 (pv 0) (pv 3)) (pe_op op_add (pv 2) (pe_callB (cr_sum rfl) (by rfl) mS (by decide +kernel) (pa_cons (pe_lock (pe_lc (own := [("_law_word", 5)]) (g := gName 5) (tt := tYes) rfl nd (pi_keys (pv 4)) (blkOk_by (N := rightN) (sc := defScope s_l_is_right) (by decide +kernel)) (fun _ _ _ _ _ => pg_name (i := 5) nd rfl (Or.inl rfl)) (fun _ _ _ _ _ => pts_nil)
          (fun _ _ _ _ _ => pe_op op_mulW (pe_dget hu (pv 4) (pv 5) (fun _ _ => rfl)) (pe_dget2 hu (pv 3) (pv 5) pe_int ⟨rfl, rfl, rfl, rfl⟩)))) pa_nil))) (nomark _)))))), ?_⟩
    show tSeq (tAsg _ (gName 4)) _ _ [some (V.ref t), some (V.ref d), some (V.int n), some (V.ref e), none, none] H
    refine asg_of ⟨_, rfl, d, N, rfl, hd, hnd, hl, fun d' L H1 hd' s1 e1 pr => ?_⟩
    have eL : L = A := cn_eq pr.cn cA fun x => by rw [pr.g, gA]
    subst eL
    have hlL : L.length ≤ 60 := Nat.le_trans pr.l hl
    have hf1 := hf.same s1
    have he1 := s1 _ _ he
    show tSeq (tIfS _ _ _) _ _ [some (V.ref t), some (V.ref d), some (V.int n), some (V.ref e), some (V.ref d'), none] H1
    obtain ⟨dx, x1, ht, hx1⟩ := hf1
    refine ifs_of (or_of (test_of ⟨_, rfl, t, dx, _, rfl, ht, rfl, t, L, n, rfl, ⟨dx, x1, ht, hx1⟩, fun p1 hp1 => ?_⟩))
    have s2 := same_new (o := dI L) hp1
    refine ⟨_, rfl, p1, d', _, _, rfl, rfl, .inl upd_same, .inl (s2 _ _ e1), flat_dI L, flat_dI L, _, rfl, ?_⟩
    rw [dicEq_self cA.nd]
    refine iteF (or_of (test_of ⟨_, rfl, t, dx, _, rfl, s2 _ _ ht, rfl, t, L, n, rfl, ⟨dx, x1, s2 _ _ ht, s2 _ _ hx1⟩, fun p2 hp2 => ?_⟩))
    have s3 := s2.trans (same_new (o := dI L) hp2)
    refine ⟨p2, L.map kvi, rfl, .inl upd_same, fun p3 hp3 => ?_⟩
    have s4 := s3.trans (same_new (o := .lst ((L.map kvi).map fun kv => kV kv.1)) hp3)
    refine ⟨_, rfl, d', L.map kvi, rfl, .inl (s4 _ _ e1), fun p4 hp4 => ?_⟩
    have s5 := s4.trans (same_new (o := .lst ((L.map kvi).map fun kv => kV kv.1)) hp4)
    refine ⟨p3, p4, _, rfl, rfl, SqL.of (same_new hp4 _ _ upd_same), SqL.of upd_same, by rw [keyV]; exact strs_tame _, false, rfl, iteF ?_⟩
    refine test_of ⟨_, rfl, t, dx, _, rfl, s5 _ _ ht, t, L, n, rfl, ⟨dx, x1, s5 _ _ ht, s5 _ _ hx1⟩, _, rfl, rfl, false, by rw [decide_eq_true rfl]; rfl, iteF (nx_of ?_)⟩
    have h5t := s5 _ _ ht
    have h5x := s5 _ _ hx1
    have h5e := s5 _ _ he1
    have h5d := s5 _ _ e1
    have s15 := s1.trans s5
    show tRet _ _ [some (V.ref t), some (V.ref d), some (V.int n), some (V.ref e), some (V.ref d'), none] _
    generalize upd (upd (upd (upd H1 p1 (dI L)) p2 (dI L)) p3 (.lst ((L.map kvi).map fun kv => kV kv.1))) p4 (.lst ((L.map kvi).map fun kv => kV kv.1)) = H5 at h5t h5x h5e h5d s15
    refine ⟨_, rfl, t, dx, _, rfl, h5t, rfl, _, rfl, t, e, L, W, n, rfl, ⟨dx, x1, h5t, h5x⟩, h5e, cA.nd, hlL, bA, bW, fun H6 s6 => ?_⟩
    have h6d := s6 _ _ h5d
    have h6e := s6 _ _ h5e
    refine ⟨_, rfl, d', dI L, h6d, True.intro, fun od => ?_⟩
    have el : (upd H6 d' (.frz od (dI L))) d' = some (.frz od (dI L)) := upd_same
    have rW := rd_lock (od := od) h6d h6e
    refine ⟨_, rfl, d', od, rfl, .inl ⟨L.map kvi, el, fun D hD => ?_⟩⟩
    obtain ⟨hD0, nDd⟩ := free_lock hD h6d
    refine lc_it (walk_keys (o := od) (d := d') (kvs := L.map kvi)) (fun i H' => Same (upd H6 d' (.frz od (dI L))) H' ∧ H' D = some (.lst (((L.take i).map fun q => q.2 * get0 W q.1).map V.int))) ⟨same_new hD, upd_same⟩ (fun i H' _ ⟨s7, _⟩ => s7 _ _ el) ?_ ?_
    · rintro i x Ha Hb hi ⟨s7, hdD⟩ ⟨eb, kk, v, hk, ex⟩
      subst eb ex
      rw [List.getElem?_map] at hk
      obtain ⟨q, hq, eq⟩ := Option.map_eq_some_iff.mp hk
      have ek : kk = .inr q.1 := (congrArg Prod.fst eq).symm
      subst ek
      have rW7 := rd_same rW s7
      have hqL := List.mem_of_getElem? hq
      have gq : get? L q.1 = some q.2 := get?_of cA.nd hqL
      refine ⟨rfl, yes_of (iteT ?_)⟩
      refine ⟨_, rfl, _, rfl, d', .int q.2, rfl, .inl ⟨L.map kvi, .inr q.1, .inr ⟨od, s7 _ _ el⟩, rfl, by rw [valV_kvi, gq]; rfl⟩, ?_⟩
      refine ⟨_, rfl, e, rfl, .inl ⟨_, rW7⟩, _, rfl, valV (W.map kvi) (.inr q.1), .inl ⟨W.map kvi, .inr q.1, rW7, rfl, rfl⟩, q.2, get0 W q.1, rfl, getD_kvi W q.1, ?_, _, hdD, ?_, ?_, ?_⟩
      · exact wide_mul (a := 700) (b := 700) (by rw [← val_of cA.nd hqL]; exact bA _) (bW _) (by decide) (by decide) (by decide)
      · rw [List.length_map, List.length_map, List.length_take, sizeLine_eq]
        omega
      · intro c o ec
        rw [upd_ne (ne_of_none ec hD)]
        exact s7 _ _ ec
      · rw [upd_same, List.take_succ, hq, List.map_append, List.map_append]
        rfl
    · rintro H7 ⟨s7, hdD⟩
      rw [List.length_map, List.take_length] at hdD
      refine ⟨s7 _ _ el, D, _, rfl, SqL.of (by rw [upd_ne nDd]; exact hdD), n, _, rfl, rfl, rfl, ?_⟩
      have e9 : decide (V.int (n + worthI L W) = V.int (n + (L.map fun q => q.2 * get0 W q.1).sum)) = true := decide_eq_true rfl
      show Q (.bl (decide (V.int (n + worthI L W) = V.int (n + (L.map fun q => q.2 * get0 W q.1).sum)))) _
      rw [e9]
      exact k _ (s15.trans (s6.trans (same_unlock h6d s7)))
end
end Lw
/-! ## SlFs -/
set_option Elab.async false
set_option linter.all false
set_option maxRecDepth 100000
set_option maxHeartbeats 4000000
namespace Sl
open PySem PySem.Spec PyProof.Rows L2
/-! objects that stand, all of them apart from p -/
def Fs (p : Addr) (H : Hp) (L : List (Addr × HO)) : Prop := ∀ (i : Nat) (a : Addr) (o : HO), L[i]? = some (a, o) → a ≠ p ∧ H a = some o
theorem Fs.get {p : Addr} {H : Hp} {L : List (Addr × HO)} (F : Fs p H L) (i : Nat) {a : Addr} {o : HO} (e : L[i]? = some (a, o)) : H a = some o := (F i a o e).2
theorem Fs.ne {p : Addr} {H : Hp} {L : List (Addr × HO)} (F : Fs p H L) (i : Nat) {a : Addr} {o : HO} (e : L[i]? = some (a, o)) : a ≠ p := (F i a o e).1
theorem Fs.keep {p : Addr} {H H' : Hp} {L : List (Addr × HO)} (F : Fs p H L) (k : Keep p H H') : Fs p H' L := fun i a o e => ⟨(F i a o e).1, k _ _ (F i a o e).1 (F i a o e).2⟩
theorem Fs.same {p : Addr} {H H' : Hp} {L : List (Addr × HO)} (F : Fs p H L) (k : Same H H') : Fs p H' L := fun i a o e => ⟨(F i a o e).1, k _ _ (F i a o e).2⟩
theorem Fs.nil {p : Addr} {H : Hp} : Fs p H [] := fun i a o e => by simp at e
theorem Fs.cons {p : Addr} {H : Hp} {L : List (Addr × HO)} {a : Addr} {o : HO} (n : a ≠ p) (h : H a = some o) (F : Fs p H L) : Fs p H ((a, o) :: L) := fun i b u e => by
  cases i with
  | zero =>
    have : (a, o) = (b, u) := by simpa using e
    cases this
    exact ⟨n, h⟩
  | succ i => exact F i b u (by simpa using e)
theorem Fs.app {p : Addr} {H : Hp} : ∀ {L M : List (Addr × HO)}, Fs p H L → Fs p H M → Fs p H (L ++ M)
  | [], _, _, G => G
  | (a, o) :: L, _, F, G => Fs.cons (F.ne 0 rfl) (F.get 0 rfl) (Fs.app (fun i b u e => F (i + 1) b u (by simpa using e)) G)
/-- an object other than q is put in -/
theorem Fs.put {p q : Addr} {H : Hp} {L : List (Addr × HO)} {o : HO} (F : Fs p H L) (n : ∀ (i : Nat) (a : Addr) (u : HO), L[i]? = some (a, u) → a ≠ q) : Fs p (upd H q o) L := fun i a u e => ⟨(F i a u e).1, by rw [upd_ne (n i a u e)]; exact (F i a u e).2⟩
theorem Fs.put_new {p q : Addr} {H H0 : Hp} {L : List (Addr × HO)} {o : HO} (F : Fs p H L) (F0 : Fs p H0 L) (h : H0 q = none) : Fs p (upd H q o) L := F.put fun i a u e z => by
  have := (F0 i a u e).2
  rw [z, h] at this
  cases this
theorem SrcAt.same {H H' : Hp} {p : Addr} {n : Nat} (h : SrcAt H p n) (k : Same H H') : SrcAt H' p n := by
  obtain ⟨g, s, c, e, a⟩ := h
  exact ⟨g, s, c, k _ _ e, a⟩
theorem SrcAt.ne_new {H : Hp} {p q : Addr} {n : Nat} (h : SrcAt H p n) (hq : H q = none) : q ≠ p := fun e => by
  obtain ⟨o, ho⟩ := h.there
  rw [e, ho] at hq
  cases hq
theorem SrcAt.put {H : Hp} {p q : Addr} {n : Nat} {o : HO} (h : SrcAt H p n) (ne : q ≠ p) : SrcAt (L2.upd H q o) p n := by
  obtain ⟨g, s, c, e, a⟩ := h
  exact ⟨g, s, c, by rw [upd_ne ne.symm]; exact e, a⟩
theorem Keep.back {p a : Addr} {H H' : Hp} (k : Keep p H H') (n : a ≠ p) (h : H' a = none) : H a = none := by
  cases e : H a with
  | none => rfl
  | some o => rw [k _ _ n e] at h; cases h
theorem of_none {H : Hp} {x y : Addr} {o : HO} (h1 : H x = none) (h2 : H y = some o) : y ≠ x := fun e => by rw [e, h1] at h2; cases h2
end Sl
/-! ## SlPar3 -/
set_option Elab.async false
set_option linter.all false
set_option maxRecDepth 100000
set_option maxHeartbeats 4000000
namespace Sl
open PySem PySem.Spec PyProof.Rows L2
/-- a, b, c = x, y, z with plain local names -/
def tPar3 (i j k : Nat) (ta : TA) : TS := fun D σ H => ta σ H fun vs H1 => ∃ u v w, vs = [u, v, w] ∧ D.nx (((σ.set i (some u)).set j (some v)).set k (some w)) H1
section
variable {X : Cx}
theorem ps_par3 {i j k : Nat} {na nb nc : Str} {ea eb ec : Expr} {ta : TA} {qa qb qc qt : Pos} {kt k2 qv} (calm : X.calm = true) (nn : X.N.Nodup) (hi : X.N[i]? = some na) (hj : X.N[j]? = some nb) (hk : X.N[k]? = some nc) (ij : i ≠ j) (ik : i ≠ k) (jk : j ≠ k)
    (la : X.env.scope.names.lookup na = some .local) (lb : X.env.scope.names.lookup nb = some .local) (lc : X.env.scope.names.lookup nc = some .local) (ha : PA X [ea, eb, ec] ta)
    (sw : swappedStores [.Tuple [.Name na qa, .Name nb qb, .Name nc qc] kt qt] (.Tuple [ea, eb, ec] k2 qv) X.env = pure (some [na, nb, nc]))
    (so : swapsWithSole [.Tuple [.Name na qa, .Name nb qb, .Name nc qc] kt qt] (.Tuple [ea, eb, ec] k2 qv) pos.line X.env = pure false := by rfl) :
    PS X (.Assign [.Tuple [.Name na qa, .Name nb qb, .Name nc qc] kt qt] (.Tuple [ea, eb, ec] k2 qv) pos) (tPar3 i j k ta) := by
  refine ⟨fun pp st σ G D I q => ?_⟩
  rw [exec_Assign_arm]
  refine wpAny_bind (wpAny_standAt ?_)
  rw [so]
  refine wpAny_bind (wpAny_pure ?_)
  rw [if_neg (by decide)]
  refine wpAny_bind (Tuple_ (thn (ha.run _ pp st σ G _ I q) fun us s1 ⟨vs, G1, I1, r1, z1⟩ => ?_))
  obtain ⟨va, vb, vc, ev, z1⟩ := z1
  subst ev
  obtain ⟨ua, ub, uc, rfl, ra, rb, rc⟩ : ∃ ua ub uc, us = [ua, ub, uc] ∧ RelV va ua ∧ RelV vb ub ∧ RelV vc uc := by
    cases r1 with
    | cons p1 r1 => cases r1 with
      | cons p2 r1 => cases r1 with
        | cons p3 r1 =>
          cases r1
          exact ⟨_, _, _, rfl, p1, p2, p3⟩
  refine wpAny_newObj_type ?_ (by show 3 ≤ sizeLine; decide)
  have I2 : Inv X pp σ G1 { s1 with heap := s1.heap.push { cls := .type "tuple", data := .seq [ua, ub, uc].toArray } } := I1.kept (t' := s1.toks) fun b o e => Heap.get?_push_of_some _ e
  rw [sw]
  refine wpAny_bind (wpAny_pure ?_)
  show wpAny (model X.prog X.w) X.A (do
    rule "assign.swapped-stores"
    let items ← unpackItems (.ref s1.heap.objs.size) 3 none
    assignInOrder [fun v => bindName X.env nc v, fun v => bindName X.env nb v, fun v => bindName X.env na v] items.reverse
    pure Flow.next) _ _ _
  refine wpAny_bind (wpAny_rule (wpAny_bind (unpackItems_tuple (items := #[ua, ub, uc]) (I.ok.hd calm) (IsTup.new s1.heap _) fun h9 e9 => ?_)))
  have I3 := I2.kept (h' := h9) (t' := s1.toks) fun b o e => e9 b o (Nat.ne_of_lt (Heap.lt_size e)) e
  show wpAny _ _ (assignInOrder [fun v => bindName X.env nc v, fun v => bindName X.env nb v, fun v => bindName X.env na v] [uc, ub, ua] >>= fun _ => pure Flow.next) _ _ _
  refine wpAny_bind (assignInOrder_cons (wpAny_bindName (store_ok I3 nn hk (.inl lc) rc (fun s4 I4 => ?_) (.inr lc))))
  refine assignInOrder_cons (wpAny_bindName (store_ok I4 nn hj (.inl lb) rb (fun s5 I5 => ?_) (.inr lb)))
  refine assignInOrder_cons (wpAny_bindName (store_ok I5 nn hi (.inl la) ra (fun s6 I6 => assignInOrder_nil (wpAny_pure ?_)) (.inr la)))
  have e : (((σ.set k (some vc)).set j (some vb)).set i (some va)) = (((σ.set i (some va)).set j (some vb)).set k (some vc)) := by
    rw [List.set_comm _ _ (Ne.symm jk), List.set_comm _ _ (Ne.symm ik), List.set_comm _ _ (Ne.symm ij)]
  rw [e] at I6
  exact ⟨_, G1, I6, z1⟩
end
end Sl
/-! ## SlOpInt -/
set_option Elab.async false
set_option linter.all false
set_option maxRecDepth 100000
set_option maxHeartbeats 4000000
namespace Sl
open PySem PySem.Spec PyProof.Rows L2
/-- an operator of an instance of C and an int -/
def rOwnInt (C : Addr) (sp : Sp) : R2 := fun x y H Q => ∃ (a dx : Addr) (fs : List (Str × V)) (i : Int), x = .ref a ∧ H a = some (.ins C dx fs) ∧ y = .int i ∧ sp [.ref a, .int i] H Q (fun _ _ _ => False)
/-- what the class and int say of the operator -/
structure IntOp (K : PySem.W.Frag) (C : Addr) (nm : String) : Prop where
  r : PySem.W.findIn K (.ref C) (dunderR nm) = some none
  i1 : ∃ fo, PySem.W.findIn K (.type "int") (PySem.dunder nm) = some fo
  i2 : ∃ fo, PySem.W.findIn K (.type "int") (dunderR nm) = some fo
  s : PySem.W.subIn K (.type "int") (.ref C) = some false
section
variable {X : Cx} {k : Nat} {C : Addr} {sp : Sp}
theorem op_oeq (h : OwnF X.prog X.w X.K X.mg X.base C k "__eq__" sp) (hr : Room k X.A) : OpR X (compareOp .Eq) (rOwnEq X.K C sp) := by
  obtain ⟨f, fd, ps, hs, hf, F, b⟩ := h.ex
  exact op_ownEq F hs hf b pass0 hr
theorem op_one (h : OwnF X.prog X.w X.K X.mg X.base C k "__eq__" sp) (hne : PySem.W.findIn X.K (.ref C) "__ne__" = some (some (.builtin "object.__ne__"))) (ho : PySem.W.subIn X.K (.ref C) (.type "object") = some true) (hr : Room (k + 1) X.A) : OpR X (compareOp .NotEq) (rOwnNe X.K C sp) := by
  obtain ⟨f, fd, ps, hs, hf, F, b⟩ := h.ex
  exact op_ownNe F hs hf hne ho b pass0 hr
theorem op_obin {op : Operator} (h : OwnF X.prog X.w X.K X.mg X.base C k (PySem.dunder op.info.2) sp) (hc : PySem.W.selfFirst X.K C = true) (hr : Room k X.A) : OpR X (binaryOp op) (rOwnOp C sp) := by
  obtain ⟨f, fd, ps, hs, hf, F, b⟩ := h.ex
  exact op_ownOp F hs hf hc b pass0 hr
theorem op_oint {op : Operator} (h : OwnF X.prog X.w X.K X.mg X.base C k (PySem.dunder op.info.2) sp) (hc : PySem.W.selfFirst X.K C = true) (n : IntOp X.K C op.info.2) (hr : Room k X.A) : OpR X (binaryOp op) (rOwnInt C sp) := by
  obtain ⟨f, fd, ps, hs, hf, F, hb⟩ := h.ex
  intro pins s σ H x y v u Q I rx ry h
  obtain ⟨a, dx, fs, i, rfl, ha, rfl, q⟩ := h
  cases (show v = Value.ref a from rx)
  obtain ⟨t, rfl⟩ := (show ∃ t, u = Value.int i t from ry)
  obtain ⟨mA, J, _⟩ := ins_get I.hok ha
  obtain ⟨od, J, _⟩ := J.look
  obtain ⟨m, hF⟩ := I.fr
  obtain ⟨f1, h1⟩ := n.i1
  obtain ⟨f2, h2⟩ := n.i2
  refine PySem.W.ksp_binT hF I.ok.mod.kin J rfl hc hs hf n.r (.inl rfl) h1 h2 n.s ?_
  refine wpAny_mono (call_at F hr rfl hb pass0 I (x := .ref a) (y := .int i) rfl ⟨t, rfl⟩ q) (fun r s' z => ?_) fun _ _ x => x
  obtain ⟨z, H', I', rz, q'⟩ := z
  have fin : EP X pins σ Q r s' := ⟨z, H', I', rz, q'⟩
  cases z with
  | non => cases (show r = Value.none from rz); exact fin
  | bl c => cases (show r = Value.bool c from rz); exact fin
  | int i => obtain ⟨t, rfl⟩ := (show ∃ t, r = Value.int i t from rz); exact fin
  | str i => obtain ⟨t, rfl⟩ := (show ∃ t, r = Value.str i t from rz); exact fin
  | byt i => obtain ⟨t, rfl⟩ := (show ∃ t, r = Value.bytes i t from rz); exact fin
  | flt i => obtain ⟨t, rfl⟩ := (show ∃ t, r = Value.float i t from rz); exact fin
  | ref i => cases (show r = Value.ref i from rz); exact fin
  | ty i => cases (show r = Value.type i from rz); exact fin
end
end Sl
/-! ## LwB -/
set_option Elab.async false
set_option linter.all false
set_option maxRecDepth 100000
set_option maxHeartbeats 8000000
set_option pp.deepTerms false
set_option pp.deepTerms.threshold 3
set_option pp.maxSteps 500
namespace Sl
open PySem PySem.Spec PyProof.Rows L2
theorem strs_in {xs : List Str} : ∀ {vs : List V}, (∀ v ∈ vs, v ∈ xs.map V.str) → vs.Nodup → ∃ us : List Str, vs = us.map V.str ∧ us.Nodup ∧ ∀ u ∈ us, u ∈ xs
  | [], _, _ => ⟨[], rfl, List.nodup_nil, fun _ h => absurd h List.not_mem_nil⟩
  | v :: r, h, hn => by
    obtain ⟨h1, h2⟩ := List.nodup_cons.mp hn
    obtain ⟨us, e, n, hu⟩ := strs_in (fun v hv => h v (List.mem_cons_of_mem _ hv)) h2
    obtain ⟨x, hx, ex⟩ := List.mem_map.mp (h v List.mem_cons_self)
    refine ⟨x :: us, by rw [← ex, e]; rfl, List.nodup_cons.mpr ⟨fun hm => h1 ?_, n⟩, fun u hu' => ?_⟩
    · rw [← ex, e]
      exact List.mem_map.mpr ⟨x, hm, rfl⟩
    · rcases List.mem_cons.mp hu' with h | h
      · rw [h]
        exact hx
      · exact hu u h
theorem nodup_strs : ∀ {xs : List Str}, xs.Nodup → (xs.map V.str).Nodup
  | [], _ => List.nodup_nil
  | x :: r, h => by
    obtain ⟨h1, h2⟩ := List.nodup_cons.mp h
    refine List.nodup_cons.mpr ⟨fun hm => h1 ?_, nodup_strs h2⟩
    obtain ⟨y, hy, e⟩ := List.mem_map.mp hm
    exact V.str.inj e ▸ hy
theorem cutV_takeS (xs : List Str) (k : Nat) : cutV (xs.map V.str) none (some ((k : Nat) : Int)) = (xs.take k).map V.str := by
  unfold cutV
  rw [HT.sIx_nat, HT.sIx_none, List.drop_zero, Nat.sub_zero, List.length_map, List.map_take]
  rcases Nat.le_total k xs.length with h | h
  · rw [Nat.min_eq_left h]
  · rw [Nat.min_eq_right h, List.take_of_length_le (by rw [List.length_map]; exact Nat.le_refl _), List.take_of_length_le (by rw [List.length_map]; exact h)]
theorem bd_of {b : Nat} {A : NI} (h : ∀ q ∈ A, q.2.natAbs < 2 ^ b) : bd b A := fun x => by
  unfold get0
  cases e : get? A x with
  | none => exact Nat.two_pow_pos b
  | some i => exact h _ (get?_mem e)
theorem bd_mono {b c : Nat} {A : NI} (h : bd b A) (l : b ≤ c) : bd c A := fun x => Nat.lt_of_lt_of_le (h x) (Nat.pow_le_pow_right (by decide) l)
theorem bd_get {b : Nat} {A N : NI} (h : bd b N) (e : ∀ x, get0 A x = get0 N x) : bd b A := fun x => by rw [e]; exact h x
theorem paired_app {α β : Type} {R : α → β → Prop} : ∀ {xs ys : List α} {us vs : List β}, Paired R xs us → Paired R ys vs → Paired R (xs ++ ys) (us ++ vs)
  | [], _, _, _, .nil, h => h
  | _ :: _, _, _, _, .cons r t, h => .cons r (paired_app t h)
theorem paired_rev {α β : Type} {R : α → β → Prop} : ∀ {xs : List α} {us : List β}, Paired R xs us → Paired R xs.reverse us.reverse
  | _, _, .nil => .nil
  | _, _, .cons r t => by
    rw [List.reverse_cons, List.reverse_cons]
    exact paired_app (paired_rev t) (.cons r .nil)
def rDP (K : PySem.W.Frag) : List V → Hp → VK → Prop := fun xs H Q => ∃ (a : Addr) (ps : List Addr) (kvs : List (Key × V)), xs = [.ref a] ∧ SqL K H a (ps.map V.ref) ∧ Paired (fun p kv => SqT K H p [kV kv.1, kv.2]) ps kvs ∧ ∀ p, H p = none → Q (.ref p) (upd H p (.dK (mergeK [] kvs)))
def tGo (x : V) : TE := fun _ H Q => Q x H
theorem get0_ap {A : NI} (n : (ks A).Nodup) {x : Str} {v : Int} (h : (x, v) ∈ A) : get0 A x = v := val_of n h
theorem ks_rev (A : NI) : ks A.reverse = (ks A).reverse := by
  unfold ks
  rw [List.map_reverse]
theorem get0_rev {A : NI} (n : (ks A).Nodup) (x : Str) : get0 A.reverse x = get0 A x :=
  get0_perm (List.reverse_perm A) (by rw [ks_rev]; exact (List.reverse_perm _).nodup_iff.mpr n) x
end Sl
namespace Lw
open PySem PySem.Spec PyProof.Rows L2 Sl
section
variable {P : Program} {w : World} {K : PySem.W.Frag} {mg : Str → Option Value} {base : Heap} {f : Addr} {fd : FuncData} {C : Addr}
/-- dict([(x, big()) for x in names]) -/
theorem bigs_of {σ : L2.St} {H1 : Hp} {Q : VK} {p l : Addr} {ys : List Str} {n : Nat} (h17 : σ.length = 18) (h1 : σ[1]? = some (some (.ref p))) (hl : SqL K H1 l (ys.map V.str)) (nl : l ≠ p) (ny : ys.Nodup) (ly : ys.length ≤ 20) (hp : SrcAt H1 p n) (hn : n ≤ 90000)
    (k : ∀ (d : Addr) (A : NI) (H' : Hp), H1 d = none → Keep p H1 H' → SrcAt H' p (n + 20) → H' d = some (dI A) → d ≠ p → ks A = ys → bd 100 A → Q (.ref d) H') :
    tCB (rDP K) (tCons (tLc (iList K (tGo (.ref l))) (gName 17) tYes (tTup (tCons (tVar 17) (tCons (tCall sp_big [] E0 (tCons (tVar 1) tNil)) tNil))) [17]) tNil) σ H1 Q := by
  refine ⟨l, rfl, ⟨_, hl⟩, fun D hD => ?_⟩
  refine lcp_of (K := K) (σ := σ) (p := p) (S := fun i H' => SrcAt H' p (n + i)) (good := fun _ v => v.natAbs < 2 ^ 100) (b := fun _ => true) (by rw [h17]; decide) hl nl (by omega) (fun _ _ h => h.there) hp (fun _ _ _ _ ne h => h.put ne) (fun _ _ h => h.mono (by omega))
    (fun _ _ _ _ _ _ _ h => yes_of h) (fun x hx i H' Q' hi hS kp kk => ?_) hD ?_
  · refine ⟨_, ?_, p, n + i, rfl, hS, by omega, fun v H'' hv hS2 kp2 => kk v H'' hv hS2 kp2⟩
    show ((σ.set 17 none).set 17 (some (V.str x)))[1]? = _
    rw [List.set_set, List.getElem?_set_ne (by decide)]
    exact h1
  intro A1 H2 kp1 hS1 hk1 hg1 ⟨ts, hd, hP⟩
  rw [filt_true] at hk1
  have nd1 : (ks A1).Nodup := by rw [hk1]; exact ny
  refine ⟨D, ts, A1.map kvi, rfl, SqL.of hd, paired_kvi hP, fun d1 hd1 => ?_⟩
  rw [mergeK_nil nd1]
  have nd1p := hS1.ne_new hd1
  exact k d1 A1 _ (kp1.back nd1p hd1) (kp1.trans (Keep.new hd1)) ((hS1.mono (by omega)).new hd1) upd_same nd1p hk1 (bd_of hg1)
/-- pairs[i][j] -/
theorem pix_of {σ : L2.St} {H : Hp} {Q : VK} {lp t : Addr} {ys zs : List V} {i j : Int} {v : V} (h4 : σ[4]? = some (some (.ref lp))) (hl : H lp = some (.lst ys)) (hi : atI ys i = some (.ref t)) (ht : H t = some (.tup zs)) (hj : atI zs j = some v) (k : Q v H) :
    tOp (rIxT K) (tOp (rIxL K) (tVar 4) (tC (.int i))) (tC (.int j)) σ H Q := ⟨_, h4, lp, ys, i, _, rfl, rfl, SqL.of hl, hi, t, zs, j, v, rfl, rfl, SqT.of ht, hj, k⟩
/-- one of the pairs: its tuple, its dict, what they tell -/
structure It6 : Type where
  t : Addr
  d : Addr
  N : NI
  n : Int
structure ItOk (p : Addr) (H : Hp) (ws : List Str) (u : It6) : Prop where
  tp : u.t ≠ p
  dp : u.d ≠ p
  ht : H u.t = some (.tup [.ref u.d, .int u.n])
  hd : H u.d = some (dI u.N)
  nd : (ks u.N).Nodup
  sb : ∀ x ∈ ks u.N, x ∈ ws
  b : bd 100 u.N
  bn : u.n.natAbs < 2 ^ 100
theorem ItOk.keep {p : Addr} {H H' : Hp} {ws : List Str} {u : It6} (h : ItOk p H ws u) (k : Keep p H H') : ItOk p H' ws u := ⟨h.tp, h.dp, k _ _ h.tp h.ht, k _ _ h.dp h.hd, h.nd, h.sb, h.b, h.bn⟩
theorem ItOk.put {p q : Addr} {H : Hp} {ws : List Str} {u : It6} {o : HO} (h : ItOk p H ws u) (n1 : u.t ≠ q) (n2 : u.d ≠ q) : ItOk p (upd H q o) ws u := ⟨h.tp, h.dp, by rw [upd_ne n1]; exact h.ht, by rw [upd_ne n2]; exact h.hd, h.nd, h.sb, h.b, h.bn⟩
/-- words that may stand in the law's forms -/
structure Wds (ws : List Str) : Prop where
  nd : ws.Nodup
  wd : ∀ x ∈ ws, wordB x = true ∧ x.length ≤ 1000
  ln : ws.length = 8
  lt : ("late" : Str) ∉ ws
theorem len_in {N : NI} {ws : List Str} (W : Wds ws) (n : (ks N).Nodup) (s : ∀ x ∈ ks N, x ∈ ws) : N.length ≤ 8 := by
  rcases Nat.lt_or_ge 8 N.length with h | h
  · exfalso
    obtain ⟨x, hx, hy⟩ := one_not_in (ks N) ws n (by rw [ks_len, W.ln]; exact h)
    exact hy (s x hx)
  · exact h
theorem okW_in {N : NI} {ws : List Str} (W : Wds ws) (n : (ks N).Nodup) (s : ∀ x ∈ ks N, x ∈ ws) : okW N := ⟨n, fun x hx => W.wd x (s x hx), by have := len_in W n s; omega⟩
theorem dot_no {a y : Str} (ha : a = "old." ∨ a = "new.") {z : Str} (hz : nameB z = true) : z ≠ a ++ y := fun e => by
  have h1 : (46 : Nat) ∈ (a ++ y).cps.toList := by
    have e2 : (a ++ y).cps.toList = a.cps.toList ++ y.cps.toList := tl_app a y
    rw [e2]
    refine List.mem_append_left _ ?_
    rcases ha with h | h <;> subst h <;> decide +kernel
  rw [← e] at h1
  exact absurd (nameB_all hz 46 h1) (by decide +kernel)
theorem lot_inj {a y z : Str} (h : a ++ y = a ++ z) : y = z := by
  have e := congrArg TL.tl h
  rw [tl_app, tl_app] at e
  exact TL.ext_tl (List.append_cancel_left e)
theorem lot_ne {y z : Str} : ("old." : Str) ++ y ≠ ("new." : Str) ++ z := fun h => by
  have e := congrArg TL.tl h
  rw [tl_app, tl_app] at e
  have := congrArg List.head? e
  rw [show TL.tl ("old." : Str) = [111, 108, 100, 46] by decide +kernel, show TL.tl ("new." : Str) = [110, 101, 119, 46] by decide +kernel] at this
  exact absurd (Option.some.inj this) (by decide)
theorem wds_of {xs : List Str} (n : xs.Nodup) (l : xs.length = 4) (d : ∀ z ∈ xs, drawn z) : Wds (xs ++ lots (xs.take 2)) := by
  have nt : (xs.take 2).Nodup := List.Nodup.sublist (List.take_sublist _ _) n
  have inj : ∀ a : Str, ((xs.take 2).map fun x => a ++ x).Nodup := fun a => by
    refine List.pairwise_map.mpr (nt.imp fun {x y} ne e => ne (lot_inj e))
  have dl : ∀ z ∈ lots (xs.take 2), ∃ a y : Str, (a = "old." ∨ a = "new.") ∧ y ∈ xs ∧ z = a ++ y := fun z hz => by
    rcases List.mem_append.mp hz with h | h
    · obtain ⟨y, hy, e⟩ := List.mem_map.mp h
      exact ⟨_, y, .inl rfl, List.mem_of_mem_take hy, e.symm⟩
    · obtain ⟨y, hy, e⟩ := List.mem_map.mp h
      exact ⟨_, y, .inr rfl, List.mem_of_mem_take hy, e.symm⟩
  refine ⟨List.nodup_append.mpr ⟨n, List.nodup_append.mpr ⟨inj _, inj _, fun x hx y hy e => ?_⟩, fun x hx y hy e => ?_⟩, fun x hx => ?_, ?_, fun h => ?_⟩
  · obtain ⟨x', _, ex⟩ := List.mem_map.mp hx
    obtain ⟨y', _, ey⟩ := List.mem_map.mp hy
    rw [← ex, ← ey] at e
    exact lot_ne e
  · obtain ⟨a, z, ha, _, ez⟩ := dl y hy
    rw [e, ez] at hx
    exact dot_no (y := z) ha (d _ hx).1 rfl
  · rcases List.mem_append.mp hx with h | h
    · have := nameB_len (d x h).1
      exact ⟨word_name (d x h).1, by omega⟩
    · obtain ⟨a, z, ha, hz, ez⟩ := dl x h
      have h1 := nameB_len (d z hz).1
      rw [ez]
      refine ⟨word_lot ha (d z hz).1, ?_⟩
      have : a.length = 4 := by rcases ha with h | h <;> subst h <;> decide +kernel
      rw [PySem.Str.length_append]
      omega
  · show (xs ++ (_ ++ _)).length = 8
    rw [List.length_append, List.length_append, List.length_map, List.length_map, List.length_take]
    omega
  · rcases List.mem_append.mp h with h | h
    · exact late_not (d _ h)
    · obtain ⟨a, z, ha, _, ez⟩ := dl _ h
      exact dot_no (y := z) ha (show nameB "late" = true by decide +kernel) ez
structure Top06 (P : Program) (w : World) (K : PySem.W.Frag) (mg : Str → Option Value) (base : Heap) (C : Addr) : Prop where
  src : Cal P w K mg base 1 "_law_source" [] (sp_source K)
  drw : Cal P w K mg base 1 "_law_draw" [] sp_draw
  nms : Cal P w K mg base 3 "_law_names" [] (sp_names K)
  sub : Cal P w K mg base 2 "_law_subset" [] (sp_subset K)
  som : Cal P w K mg base 3 "_law_some" [] (sp_some K)
  lots : Cal P w K mg base 1 "_law_lots" [] (sp_lots K)
  big : Cal P w K mg base 2 "_law_big" [] sp_big
  less : Cal P w K mg base 1 "_law_less" [] sp_less
  right : Cal P w K mg base 3 "_law_is_right" [] (sp_isright C)
  frm : FormF P w K mg base C
  M : Meths P w K mg base C
  oeq : OwnF P w K mg base C 1 "__eq__" (sp_feq K C)
  oadd : OwnF P w K mg base C 7 "__add__" (sp_fadd C)
  osub : OwnF P w K mg base C 7 "__sub__" (sp_fsub C)
  omul : OwnF P w K mg base C 7 "__mul__" (sp_fmul C)
  iop : IntOp K C "mul"
  one : PySem.W.findIn K (.ref C) "__ne__" = some (some (.builtin "object.__ne__"))
  osubc : PySem.W.subIn K (.ref C) (.type "object") = some true
  oself : PySem.W.selfFirst K C = true
  nD : PySem.W.notFirst K C (.type "dict") = true
  nI : PySem.W.notFirst K C (.type "int") = true
  kD : PySem.W.kitOne K (.type "dict") (.ref C) = some false
  kI : PySem.W.kitOne K (.type "int") (.ref C) = some false
  mD : mg "dict" = none
  mL : mg "list" = none
  mR : mg "range" = none
end
end Lw
/-! ## LwC -/
set_option Elab.async false
set_option linter.all false
set_option maxRecDepth 100000
set_option maxHeartbeats 8000000
set_option pp.deepTerms false
set_option pp.deepTerms.threshold 3
set_option pp.maxSteps 500
namespace Lw
open PySem PySem.Spec PyProof.Rows L2 Sl
def sp_law (K : PySem.W.Frag) : Sp := fun vs H Q _ => ∃ (a : Addr) (ns : List Int), vs = [.ref a] ∧ SqL K H a (ns.map V.int) ∧ ns.length ≤ 63 ∧ ∀ H', Q (.bl true) H'
abbrev lawN : List Str := ["_law_script", "_law_source_here", "_law_names_here", "_law_words", "_law_pairs", "_law_k", "_law_some_here", "_law_worths", "_law_handed", "_law_one", "_law_other", "_law_held", "_law_same", "_law_times", "_law_sums", "_law_less_here", "_law_many", "_law_word"]
section
variable {P : Program} {w : World} {K : PySem.W.Frag} {mg : Str → Option Value} {base : Heap} {f : Addr} {fd : FuncData} {C : Addr}
theorem gen_of {t U : TS} {D : Ends} {σ : L2.St} {H : Hp} {P : L2.St → Hp → Prop} (h1 : ∀ V : TS, (∀ σ' H', P σ' H' → V D σ' H') → tSeq t V D σ H) (h2 : ∀ σ' H', P σ' H' → U D σ' H') : tSeq t U D σ H := h1 U h2
/-- dict([(x, d.get(x, 0) op e.get(x, 0)) for x in words]), two of the pairs -/
theorem comb_of {σ : L2.St} {H1 : Hp} {l D t0 t1 d e lp : Addr} {ys : List Str} {M N : NI} {n m : Int} {op : Int → Int → Int} {Qd : Hp → Prop} {p : Addr} (hm : σ.length = 18) (h4 : σ[4]? = some (some (.ref lp)))
    (hlp : H1 lp = some (.lst [.ref t0, .ref t1])) (ht0 : H1 t0 = some (.tup [.ref d, .int n])) (ht1 : H1 t1 = some (.tup [.ref e, .int m])) (hl : H1 l = some (.lst (ys.map V.str))) (hlen : ys.length ≤ 100) (hd : H1 d = some (dI M)) (he : H1 e = some (dI N)) (hD : H1 D = none)
    (k : ∀ (A : NI) (H' : Hp), Same H1 H' → ks A = ys → (∀ q ∈ A, q.2 = op (get0 M q.1) (get0 N q.1)) → PairsL H' D A → Qd H') :
    ∃ W : Nat → Nat → Hp → Prop, (∃ m, W 0 m (upd H1 D (.lst []))) ∧ ∀ i' m' H, W i' m' H → ((Itl K l).stop i' H ∧ Qd H) ∨ ((Itl K l).go i' H ∧ ∃ Nx : Hp → Prop, (∀ H', Nx H' → ∃ m'', m'' < m' ∧ W (i' + 1) m'' H') ∧ ∀ x H', (Itl K l).yld i' H x H' → gName 17 x (wipe σ [17]) H' fun σ2 H2 => wipe σ2 [17] = wipe σ [17] ∧ tYes σ2 H2 fun c H3 =>
        if c = true then tTup (tCons (tVar 17) (tCons (tOp (rI0 fun i j => .int (op i j)) (tDGet2 (tOp (rIxT K) (tOp (rIxL K) (tVar 4) (tC (.int 0))) (tC (.int 0))) (tVar 17) (tC (.int 0))) (tDGet2 (tOp (rIxT K) (tOp (rIxL K) (tVar 4) (tC (.int 1))) (tC (.int 0))) (tVar 17) (tC (.int 0)))) tNil)) σ2 H3 fun y H4 => ∃ acc, H4 D = some (.lst acc) ∧ acc.length < sizeLine ∧ Nx (upd H4 D (.lst (acc ++ [y]))) else Nx H3) := by
  have nl : l ≠ d := fun h => by rw [h, hd] at hl; cases hl
  have st : ∀ {b : Addr} {o u : HO} {H' : Hp}, H' d = some (dI M) → Keep d H1 H' → H1 b = some o → H' b = some o := fun {b o u H'} hS kp hb => by
    by_cases e' : b = d
    · subst e'
      rw [hd] at hb
      rw [hS, hb]
    · exact kp _ _ e' hb
  refine lcp_of (K := K) (σ := σ) (p := d) (S := fun _ H' => H' d = some (dI M)) (good := fun x v => v = op (get0 M x) (get0 N x)) (b := fun _ => true) (by rw [hm]; decide) (SqL.of hl) nl hlen (fun _ _ h => ⟨_, h⟩) hd (fun _ H q o ne h => by rw [upd_ne ne.symm]; exact h) (fun _ _ h => h)
    (fun _ _ _ _ _ _ _ h => yes_of h) (fun x hx i' H' Q' hi' hS kp kk => ?_) hD ?_
  · have hN := st (u := dI N) hS kp he
    have g4 : ((wipe σ [17]).set 17 (some (V.str x)))[4]? = some (some (.ref lp)) := by
      show ((σ.set 17 none).set 17 (some (V.str x)))[4]? = _
      rw [List.set_set, List.getElem?_set_ne (by decide)]
      exact h4
    have g17 : ((wipe σ [17]).set 17 (some (V.str x)))[17]? = some (some (.str x)) := by
      rw [List.getElem?_set_self (by rw [wipe_length, hm]; decide)]
    refine pix_of g4 (st (u := dI N) hS kp hlp) rfl (st (u := dI N) hS kp ht0) rfl ⟨d, rfl, .inl ⟨_, .inl hS⟩, _, g17, valV (M.map kvi) (.inr x), .inl ⟨M.map kvi, .inr x, .inl hS, rfl, rfl⟩, ?_⟩
    refine pix_of g4 (st (u := dI N) hS kp hlp) rfl (st (u := dI N) hS kp ht1) rfl ⟨e, rfl, .inl ⟨_, .inl hN⟩, _, g17, valV (N.map kvi) (.inr x), .inl ⟨N.map kvi, .inr x, .inl hN, rfl, rfl⟩, ?_⟩
    exact ⟨_, _, getD_kvi M x, getD_kvi N x, kk _ H' rfl hS (Keep.refl _ _)⟩
  · intro A H' kp hS hk hg hP
    rw [filt_true] at hk
    exact k A H' (fun c o ec => st (u := dI N) hS kp ec) hk hg hP
theorem comb_get {A M N : NI} {ws : List Str} {op : Int → Int → Int} (h0 : op 0 0 = 0) (nw : ws.Nodup) (hk : ks A = ws) (hv : ∀ q ∈ A, q.2 = op (get0 M q.1) (get0 N q.1)) (sM : ∀ x ∈ ks M, x ∈ ws) (sN : ∀ x ∈ ks N, x ∈ ws) (x : Str) : get0 A x = op (get0 M x) (get0 N x) := by
  by_cases hx : x ∈ ks A
  · obtain ⟨q, hq, e⟩ := List.mem_map.mp hx
    rw [← e, val_of (by rw [hk]; exact nw) hq]
    exact hv q hq
  · rw [get0_none hx, get0_none (fun h => hx (by rw [hk]; exact sM x h)), get0_none (fun h => hx (by rw [hk]; exact sN x h)), h0]
/-- dict([(x, d.get(x, 0) * times) for x in words]) -/
theorem mult_of {σ : L2.St} {H1 : Hp} {l D t0 t1 d lp : Addr} {ys : List Str} {M : NI} {n m : Int} {Qd : Hp → Prop} (hm : σ.length = 18) (h4 : σ[4]? = some (some (.ref lp))) (h13 : σ[13]? = some (some (.int m))) (bM : bd 100 M) (bm : m.natAbs < 2 ^ 100)
    (hlp : H1 lp = some (.lst [.ref t0, .ref t1])) (ht0 : H1 t0 = some (.tup [.ref d, .int n])) (hl : H1 l = some (.lst (ys.map V.str))) (hlen : ys.length ≤ 100) (hd : H1 d = some (dI M)) (hD : H1 D = none)
    (k : ∀ (A : NI) (H' : Hp), Same H1 H' → ks A = ys → (∀ q ∈ A, q.2 = get0 M q.1 * m) → PairsL H' D A → Qd H') :
    ∃ W : Nat → Nat → Hp → Prop, (∃ m, W 0 m (upd H1 D (.lst []))) ∧ ∀ i' m' H, W i' m' H → ((Itl K l).stop i' H ∧ Qd H) ∨ ((Itl K l).go i' H ∧ ∃ Nx : Hp → Prop, (∀ H', Nx H' → ∃ m'', m'' < m' ∧ W (i' + 1) m'' H') ∧ ∀ x H', (Itl K l).yld i' H x H' → gName 17 x (wipe σ [17]) H' fun σ2 H2 => wipe σ2 [17] = wipe σ [17] ∧ tYes σ2 H2 fun c H3 =>
        if c = true then tTup (tCons (tVar 17) (tCons (tOp (rI CMulW fun i j => .int (i * j)) (tDGet2 (tOp (rIxT K) (tOp (rIxL K) (tVar 4) (tC (.int 0))) (tC (.int 0))) (tVar 17) (tC (.int 0))) (tVar 13)) tNil)) σ2 H3 fun y H4 => ∃ acc, H4 D = some (.lst acc) ∧ acc.length < sizeLine ∧ Nx (upd H4 D (.lst (acc ++ [y]))) else Nx H3) := by
  have nl : l ≠ d := fun h => by rw [h, hd] at hl; cases hl
  have st : ∀ {b : Addr} {o : HO} {H' : Hp}, H' d = some (dI M) → Keep d H1 H' → H1 b = some o → H' b = some o := fun {b o H'} hS kp hb => by
    by_cases e' : b = d
    · subst e'
      rw [hd] at hb
      rw [hS, hb]
    · exact kp _ _ e' hb
  refine lcp_of (K := K) (σ := σ) (p := d) (S := fun _ H' => H' d = some (dI M)) (good := fun x v => v = get0 M x * m) (b := fun _ => true) (by rw [hm]; decide) (SqL.of hl) nl hlen (fun _ _ h => ⟨_, h⟩) hd (fun _ H q o ne h => by rw [upd_ne ne.symm]; exact h) (fun _ _ h => h)
    (fun _ _ _ _ _ _ _ h => yes_of h) (fun x hx i' H' Q' hi' hS kp kk => ?_) hD ?_
  · have g4 : ((wipe σ [17]).set 17 (some (V.str x)))[4]? = some (some (.ref lp)) := by
      show ((σ.set 17 none).set 17 (some (V.str x)))[4]? = _
      rw [List.set_set, List.getElem?_set_ne (by decide)]
      exact h4
    have g13 : ((wipe σ [17]).set 17 (some (V.str x)))[13]? = some (some (.int m)) := by
      show ((σ.set 17 none).set 17 (some (V.str x)))[13]? = _
      rw [List.set_set, List.getElem?_set_ne (by decide)]
      exact h13
    have g17 : ((wipe σ [17]).set 17 (some (V.str x)))[17]? = some (some (.str x)) := by
      rw [List.getElem?_set_self (by rw [wipe_length, hm]; decide)]
    refine pix_of g4 (st hS kp hlp) rfl (st hS kp ht0) rfl ⟨d, rfl, .inl ⟨_, .inl hS⟩, _, g17, valV (M.map kvi) (.inr x), .inl ⟨M.map kvi, .inr x, .inl hS, rfl, rfl⟩, ?_⟩
    exact ⟨_, g13, _, m, getD_kvi M x, rfl, wide_mul (a := 100) (b := 100) (bM x) bm (by decide) (by decide) (by decide), kk _ H' rfl hS (Keep.refl _ _)⟩
  · intro A H' kp hS hk hg hP
    rw [filt_true] at hk
    exact k A H' (fun c o ec => st hS kp ec) hk hg hP
theorem finit_of {H1 : Hp} {Qs : VK} {E : XK} {x dx d : Addr} {N : NI} {n : Int} (hx : H1 x = none) (hdx : H1 dx = none) (ne : dx ≠ x) (hd : H1 d = some (dI N)) (o : okW N) (k : ∀ H' d1 A, H1 d1 = none → Same H1 H' → FormX H' C x A n dx d1 → Prt A N → Qs .non H') :
    sp_finit K C [.ref x, .ref d, .int n] (upd (upd H1 dx (.own x)) x (.ins C dx [])) Qs E := by
  have s0 : Same H1 (upd (upd H1 dx (.own x)) x (.ins C dx [])) := fun c o e => by
    rw [upd_ne (ne_of_none e hx), upd_ne (ne_of_none e hdx)]
    exact e
  exact ⟨x, dx, d, N, n, rfl, upd_same, s0 _ _ hd, o, fun H' d1 A kp f1 fx pr => k H' d1 A (free_same s0 f1) (fun c o e => kp c o (ne_of_none e hx) (s0 c o e)) fx pr⟩
theorem natAbs_sum {a b : Int} {k : Nat} (ha : a.natAbs < 2 ^ k) (hb : b.natAbs < 2 ^ k) : (a + b).natAbs < 2 ^ (k + 1) := by
  have := Int.natAbs_add_le a b
  rw [Nat.pow_succ]
  omega
theorem natAbs_dif {a b : Int} {k : Nat} (ha : a.natAbs < 2 ^ k) (hb : b.natAbs < 2 ^ k) : (a - b).natAbs < 2 ^ (k + 1) := by
  have := Int.natAbs_sub_le a b
  rw [Nat.pow_succ]
  omega
theorem ok_law (F : FnP K "law" s_law [] f fd) (T : Top06 P w K mg base C) : FnOk P w K mg base CX0 8 f fd ["_law_script"] (sp_law K) := by
  refine F.ok sc_law (fun vs H Q E h => ?_) (fun cdv A outer s H vs Q E hr h => ?_)
  · obtain ⟨a, ns, rfl, _⟩ := h
    rfl
  · obtain ⟨a, ns, rfl, hS, hlen, k⟩ := h
    have nd := sc_law.nd
    have hu := hu_of hr
    have hu' := Nat.lt_of_succ_lt hu
    have hr1 : Room 1 (A.deeper (envOfC "law" (defScope s_law) s.heap.objs.size f cdv)) := hr.mono (by decide)
    have hr2 : Room 2 (A.deeper (envOfC "law" (defScope s_law) s.heap.objs.size f cdv)) := hr.mono (by decide)
    have hr3 : Room 3 (A.deeper (envOfC "law" (defScope s_law) s.heap.objs.size f cdv)) := hr.mono (by decide)
    have hr6 : Room 6 (A.deeper (envOfC "law" (defScope s_law) s.heap.objs.size f cdv)) := hr.mono (by decide)
    have cl := T.frm.T.cl
    have TC := T.frm.T
    refine ⟨_, PSs.nox (pss_cons (ps_set (i := 1) nd rfl (.inr rfl) (pe_cal T.src hr1 (pa_cons (pv 0) pa_nil)))
      (pss_cons (ps_set (i := 2) nd rfl (.inl rfl) (pe_cal T.nms hr3 (pa_cons (pv 1) (pa_cons pe_int pa_nil))))
      (pss_cons (ps_set (i := 3) nd rfl (.inl rfl) (pe_op op_cat (pv 2) (pe_cal T.lots hr1 (pa_cons (pe_slice sl_list (pv 2) po_none (po_some pe_int)) pa_nil))))
      (pss_cons (ps_set (i := 4) nd rfl (.inr rfl) (pe_lst pa_nil))
      (pss_cons (ps_for PassesOwn.never rfl (pi_range1 (by rfl) T.mR (pa_cons pe_int pa_nil)) (pg_name (i := 5) nd rfl (Or.inl rfl))
        (pss_cons (ps_set (i := 6) nd rfl (.inl rfl) (pe_cal T.sub hr2 (pa_cons (pv 1) (pa_cons (pv 3) pa_nil))))
        (pss_one (ps_expr (pe_bm PySem.F.plainAttrs_list PySem.F.slot_list_append PySem.F.type_list_append mt_append (pv 4) (pa_cons (pe_tup (pa_cons (pe_callTy (r := rDP K) (call_dictP rfl) (by rfl) T.mD (by decide +kernel) (pa_cons (pe_lc (own := [("_law_word", 17)]) (g := gName 17) (tt := tYes) rfl nd (pi_list (pv 6))
            (blkOk_by (N := lawN) (sc := defScope s_law) (by decide +kernel)) (fun _ _ _ _ _ => pg_name (i := 17) nd rfl (Or.inl rfl)) (fun _ _ _ _ _ => pts_nil) (fun _ _ _ _ _ => pe_tup (pa_cons (pv 17) (pa_cons (pe_cal T.big hr2 (pa_cons (pv 1) pa_nil)) pa_nil)))) pa_nil)) (pa_cons (pe_cal T.big hr2 (pa_cons (pv 1) pa_nil)) pa_nil))) pa_nil))))))
      (pss_cons (ps_if (pt_cmpR op_eq (pe_cal T.drw hr1 (pa_cons (pv 1) (pa_cons pe_int pa_nil))) pe_int (nomark _))
        (pss_one (ps_asg (pe_tup (pa_cons (pe_callTy (r := rDP K) (call_dictP rfl) (by rfl) T.mD (by decide +kernel) (pa_cons (pe_revL (LiI.pe_listItems rfl (pe_cal T.less hr1 (pa_cons (pe_ix ix_tup (pe_ix ix_list (pv 4) pe_int (fun _ _ => rfl)) pe_int (fun _ _ => rfl)) pa_nil)) (by rfl) T.mL PyProof.Rows.Boot.«list»)) pa_nil)) (pa_cons (pe_ix ix_tup (pe_ix ix_list (pv 4) pe_int (fun _ _ => rfl)) pe_int (fun _ _ => rfl)) pa_nil))) (pg_sub (pv 4) pe_int set_list))) pss_nil)
      (pss_cons (ps_set (i := 7) nd rfl (.inl rfl) (pe_callTy (r := rDP K) (call_dictP rfl) (by rfl) T.mD (by decide +kernel) (pa_cons (pe_lc (own := [("_law_word", 17)]) (g := gName 17) (tt := tYes) rfl nd (pi_list (pe_cal T.som hr3 (pa_cons (pv 1) (pa_cons (pv 3) pa_nil))))
            (blkOk_by (N := lawN) (sc := defScope s_law) (by decide +kernel)) (fun _ _ _ _ _ => pg_name (i := 17) nd rfl (Or.inl rfl)) (fun _ _ _ _ _ => pts_nil) (fun _ _ _ _ _ => pe_tup (pa_cons (pv 17) (pa_cons (pe_cal T.big hr2 (pa_cons (pv 1) pa_nil)) pa_nil)))) pa_nil)))
      (pss_cons (ps_set (i := 8) nd rfl (.inl rfl) (pe_callTy call_dictD (by rfl) T.mD (by decide +kernel) (pa_cons (pe_ix ix_tup (pe_ix ix_list (pv 4) pe_int (fun _ _ => rfl)) pe_int (fun _ _ => rfl)) pa_nil)))
      (pss_cons (Sl.ps_par3 (i := 9) (j := 10) (k := 11) (by rfl) nd rfl rfl rfl (by decide) (by decide) (by decide) rfl rfl rfl (pa_cons (pe_form2 T.frm hr6 (pa_cons (pv 8) (pa_cons (pe_ix ix_tup (pe_ix ix_list (pv 4) pe_int (fun _ _ => rfl)) pe_int (fun _ _ => rfl)) pa_nil)))
          (pa_cons (pe_form2 T.frm hr6 (pa_cons (pe_ix ix_tup (pe_ix ix_list (pv 4) pe_int (fun _ _ => rfl)) pe_int (fun _ _ => rfl)) (pa_cons (pe_ix ix_tup (pe_ix ix_list (pv 4) pe_int (fun _ _ => rfl)) pe_int (fun _ _ => rfl)) pa_nil))) (pa_cons (pe_callTy call_dictD (by rfl) T.mD (by decide +kernel) (pa_cons (pv 7) pa_nil)) pa_nil))) (by rfl))
      (pss_cons (ps_if (pt_cmpR (op_neDic hu') (pv 8) (pe_ix ix_tup (pe_ix ix_list (pv 4) pe_int (fun _ _ => rfl)) pe_int (fun _ _ => rfl)) (nomark _)) (pss_one (ps_ret pe_bl)) pss_nil)
      (pss_cons (ps_dput hu (pv 8) pe_str pe_int rfl)
      (pss_cons (ps_expr (pe_dclear (pe_me0 T.M.parts cl hr1 (pv 9))))
      (pss_cons (ps_if (pt_not (pt_val (pe_cal T.right hr3 (pa_cons (pv 9) (pa_cons (pe_ix ix_tup (pe_ix ix_list (pv 4) pe_int (fun _ _ => rfl)) pe_int (fun _ _ => rfl)) (pa_cons (pe_ix ix_tup (pe_ix ix_list (pv 4) pe_int (fun _ _ => rfl)) pe_int (fun _ _ => rfl)) (pa_cons (pv 7) pa_nil))))))) (pss_one (ps_ret pe_bl)) pss_nil)
      (pss_cons (ps_set (i := 12) nd rfl (.inl rfl) (pe_and (pe_cmpR (op_eqDic hu') (pe_cal T.less hr1 (pa_cons (pe_ix ix_tup (pe_ix ix_list (pv 4) pe_int (fun _ _ => rfl)) pe_int (fun _ _ => rfl)) pa_nil)) (pe_cal T.less hr1 (pa_cons (pe_ix ix_tup (pe_ix ix_list (pv 4) pe_int (fun _ _ => rfl)) pe_int (fun _ _ => rfl)) pa_nil)) (nomark _))
          (pe_one (pe_cmpR op_eq (pe_ix ix_tup (pe_ix ix_list (pv 4) pe_int (fun _ _ => rfl)) pe_int (fun _ _ => rfl)) (pe_ix ix_tup (pe_ix ix_list (pv 4) pe_int (fun _ _ => rfl)) pe_int (fun _ _ => rfl)) (nomark _)))))
      (pss_cons (ps_if (PW.pt (pw_or (pt_cmpR op_ne (pe_cmpR (op_oeq T.oeq hr1) (pv 9) (pv 10) (nomark _)) (pv 12) (nomark _)) (pw_or (pt_cmpR op_eq (pe_cmpR (op_one T.oeq T.one T.osubc hr2) (pv 9) (pv 10) (nomark _)) (pv 12) (nomark _)) (pw_or (pt_cmpR (op_oeq T.oeq hr1) (pv 9) (pe_ix ix_tup (pe_ix ix_list (pv 4) pe_int (fun _ _ => rfl)) pe_int (fun _ _ => rfl)) (nomark _))
          (pw_or1 (pt_cmpR (op_oeq T.oeq hr1) (pe_form2 T.frm hr6 (pa_cons pe_dnewK (pa_cons (pe_ix ix_tup (pe_ix ix_list (pv 4) pe_int (fun _ _ => rfl)) pe_int (fun _ _ => rfl)) pa_nil))) (pe_ix ix_tup (pe_ix ix_list (pv 4) pe_int (fun _ _ => rfl)) pe_int (fun _ _ => rfl)) (nomark _))))))) (pss_one (ps_ret pe_bl)) pss_nil)
      (pss_cons (ps_set (i := 13) nd rfl (.inr rfl) (pe_cal T.big hr2 (pa_cons (pv 1) pa_nil)))
      (pss_cons (ps_set (i := 14) nd rfl (.inl rfl) (pe_callTy (r := rDP K) (call_dictP rfl) (by rfl) T.mD (by decide +kernel) (pa_cons (pe_lc (own := [("_law_word", 17)]) (g := gName 17) (tt := tYes) (te := tTup (tCons (tVar 17) (tCons (tOp (rI0 fun i j => .int (i + j)) (tDGet2 (tOp (rIxT K) (tOp (rIxL K) (tVar 4) (tC (.int 0))) (tC (.int 0))) (tVar 17) (tC (.int 0))) (tDGet2 (tOp (rIxT K) (tOp (rIxL K) (tVar 4) (tC (.int 1))) (tC (.int 0))) (tVar 17) (tC (.int 0)))) tNil))) rfl nd (pi_list (pv 3))
            (blkOk_by (N := lawN) (sc := defScope s_law) (by decide +kernel)) (fun _ _ _ _ _ => pg_name (i := 17) nd rfl (Or.inl rfl)) (fun _ _ _ _ _ => pts_nil) (fun _ _ _ _ _ => pe_tup (pa_cons (pv 17) (pa_cons (pe_op op_add (pe_dget2 hu (pe_ix (r := rIxT K) ix_tup (pe_ix (r := rIxL K) ix_list (pv 4) pe_int (fun _ _ => rfl)) pe_int (fun _ _ => rfl)) (pv 17) pe_int ⟨rfl, rfl, rfl, rfl⟩) (pe_dget2 hu (pe_ix (r := rIxT K) ix_tup (pe_ix (r := rIxL K) ix_list (pv 4) pe_int (fun _ _ => rfl)) pe_int (fun _ _ => rfl)) (pv 17) pe_int ⟨rfl, rfl, rfl, rfl⟩)) pa_nil)))) pa_nil)))
      (pss_cons (ps_set (i := 15) nd rfl (.inl rfl) (pe_callTy (r := rDP K) (call_dictP rfl) (by rfl) T.mD (by decide +kernel) (pa_cons (pe_lc (own := [("_law_word", 17)]) (g := gName 17) (tt := tYes) (te := tTup (tCons (tVar 17) (tCons (tOp (rI0 fun i j => .int (i - j)) (tDGet2 (tOp (rIxT K) (tOp (rIxL K) (tVar 4) (tC (.int 0))) (tC (.int 0))) (tVar 17) (tC (.int 0))) (tDGet2 (tOp (rIxT K) (tOp (rIxL K) (tVar 4) (tC (.int 1))) (tC (.int 0))) (tVar 17) (tC (.int 0)))) tNil))) rfl nd (pi_list (pv 3))
            (blkOk_by (N := lawN) (sc := defScope s_law) (by decide +kernel)) (fun _ _ _ _ _ => pg_name (i := 17) nd rfl (Or.inl rfl)) (fun _ _ _ _ _ => pts_nil) (fun _ _ _ _ _ => pe_tup (pa_cons (pv 17) (pa_cons (pe_op op_sub (pe_dget2 hu (pe_ix (r := rIxT K) ix_tup (pe_ix (r := rIxL K) ix_list (pv 4) pe_int (fun _ _ => rfl)) pe_int (fun _ _ => rfl)) (pv 17) pe_int ⟨rfl, rfl, rfl, rfl⟩) (pe_dget2 hu (pe_ix (r := rIxT K) ix_tup (pe_ix (r := rIxL K) ix_list (pv 4) pe_int (fun _ _ => rfl)) pe_int (fun _ _ => rfl)) (pv 17) pe_int ⟨rfl, rfl, rfl, rfl⟩)) pa_nil)))) pa_nil)))
      (pss_cons (ps_set (i := 16) nd rfl (.inl rfl) (pe_callTy (r := rDP K) (call_dictP rfl) (by rfl) T.mD (by decide +kernel) (pa_cons (pe_lc (own := [("_law_word", 17)]) (g := gName 17) (tt := tYes) (te := tTup (tCons (tVar 17) (tCons (tOp (rI CMulW fun i j => .int (i * j)) (tDGet2 (tOp (rIxT K) (tOp (rIxL K) (tVar 4) (tC (.int 0))) (tC (.int 0))) (tVar 17) (tC (.int 0))) (tVar 13)) tNil))) rfl nd (pi_list (pv 3))
            (blkOk_by (N := lawN) (sc := defScope s_law) (by decide +kernel)) (fun _ _ _ _ _ => pg_name (i := 17) nd rfl (Or.inl rfl)) (fun _ _ _ _ _ => pts_nil) (fun _ _ _ _ _ => pe_tup (pa_cons (pv 17) (pa_cons (pe_op op_mulW (pe_dget2 hu (pe_ix (r := rIxT K) ix_tup (pe_ix (r := rIxL K) ix_list (pv 4) pe_int (fun _ _ => rfl)) pe_int (fun _ _ => rfl)) (pv 17) pe_int ⟨rfl, rfl, rfl, rfl⟩) (pv 13)) pa_nil)))) pa_nil)))
      (pss_cons (ps_if (pt_not (pt_val (pe_cal T.right hr3 (pa_cons (pe_op (op_obin T.oadd T.oself hr) (pv 9) (pv 10)) (pa_cons (pv 14) (pa_cons (pe_op op_add (pe_ix ix_tup (pe_ix ix_list (pv 4) pe_int (fun _ _ => rfl)) pe_int (fun _ _ => rfl)) (pe_ix ix_tup (pe_ix ix_list (pv 4) pe_int (fun _ _ => rfl)) pe_int (fun _ _ => rfl))) (pa_cons (pv 7) pa_nil))))))) (pss_one (ps_ret pe_bl)) pss_nil)
      (pss_cons (ps_if (pt_not (pt_val (pe_cal T.right hr3 (pa_cons (pe_op (op_obin T.osub T.oself hr) (pv 9) (pv 10)) (pa_cons (pv 15) (pa_cons (pe_op op_sub (pe_ix ix_tup (pe_ix ix_list (pv 4) pe_int (fun _ _ => rfl)) pe_int (fun _ _ => rfl)) (pe_ix ix_tup (pe_ix ix_list (pv 4) pe_int (fun _ _ => rfl)) pe_int (fun _ _ => rfl))) (pa_cons (pv 7) pa_nil))))))) (pss_one (ps_ret pe_bl)) pss_nil)
      (pss_cons (ps_if (PW.pt (pw_or (pt_cmpR (op_neDic hu') (pv 7) (pv 11) (nomark _)) (pw_or1 (pt_not (pt_cmpR (op_oeq T.oeq hr1) (pe_form1 T.frm hr6 (pa_cons pe_dnewK pa_nil)) (pe_form2 T.frm hr6 (pa_cons pe_dnewK (pa_cons pe_int pa_nil))) (nomark _)))))) (pss_one (ps_ret pe_bl)) pss_nil)
      (pss_one (ps_ret (pe_and (pe_cal T.right hr3 (pa_cons (pe_op (op_oint T.omul T.oself T.iop hr) (pv 9) (pv 13)) (pa_cons (pv 16) (pa_cons (pe_op op_mulW (pe_ix ix_tup (pe_ix ix_list (pv 4) pe_int (fun _ _ => rfl)) pe_int (fun _ _ => rfl)) (pv 13)) (pa_cons (pv 7) pa_nil)))))
        (pe_one (pe_cmpR (op_oeq T.oeq hr1) (pe_op (op_obin T.osub T.oself hr) (pv 9) (pv 9)) (pe_form1 T.frm hr6 (pa_cons pe_dnewK pa_nil)) (nomark _)))))))))))))))))))))))))))), ?_⟩
    refine ⟨_, rfl, a, ns, rfl, hS, hlen, fun p H1 hp hs0 ks0 => ?_⟩
    have l8 : ∀ {xs : List Str}, (∀ z ∈ xs, drawn z) → ∀ x ∈ xs, x.length ≤ 8 := fun h x hx => (nameB_len (h x hx).1).2
    show tSeq (tAsg (tCall (sp_names K) [] E0 (tCons (tVar 1) (tCons (tC (.int ((4 : Nat) : Int))) tNil))) (gName 2)) _ _ [some (V.ref a), some (V.ref p), none, none, none, none, none, none, none, none, none, none, none, none, none, none, none, none] H1
    refine asg_of ⟨_, rfl, p, 4, 0, rfl, hs0, by decide, by decide, fun q xs H2 l4 ndx drx hq hqe hs1 kp1 => ?_⟩
    have nqp := hs0.ne_new hq
    show tSeq (tAsg (tOp rCat (tVar 2) (tCall (sp_lots K) [] E0 (tCons (tSl (rSlL K) (tVar 2) tNoPart (tPart (tC (.int ((2 : Nat) : Int))))) tNil))) (gName 3)) _ _ [some (V.ref a), some (V.ref p), some (V.ref q), none, none, none, none, none, none, none, none, none, none, none, none, none, none, none] H2
    refine asg_of ⟨_, rfl, _, rfl, _, rfl, q, _, rfl, SqL.of hqe, fun q2 hq2 => ?_⟩
    rw [cutV_takeS]
    have lt2 : ∀ x ∈ xs.take 2, x.length ≤ 8 := fun x hx => l8 drx x (List.mem_of_mem_take hx)
    refine ⟨q2, xs.take 2, rfl, SqL.of upd_same, by rw [List.length_take]; omega, lt2, fun q3 H3 s3 hq3 e3 => ?_⟩
    have s23 := (same_new (o := .lst ((xs.take 2).map V.str)) hq2).trans s3
    refine ⟨q, q3, _, _, rfl, rfl, s23 _ _ hqe, e3, ?_, fun wl hwl => ?_⟩
    · show (List.map V.str xs).length + (List.map V.str (_ ++ _)).length ≤ _
      rw [List.length_map, List.length_map, List.length_append, List.length_map, List.length_map, List.length_take, sizeLine_eq]
      omega
    rw [← List.map_append]
    have W := wds_of ndx l4 drx
    have nwl := (hs1.same s23).ne_new hwl
    have ew : (upd H3 wl (.lst ((xs ++ lots (xs.take 2)).map V.str))) wl = some (.lst ((xs ++ lots (xs.take 2)).map V.str)) := upd_same
    have hs3 : SrcAt (upd H3 wl (.lst ((xs ++ lots (xs.take 2)).map V.str))) p 40 := (hs1.same s23).new hwl
    generalize xs ++ lots (xs.take 2) = ws at W ew hs3
    show tSeq (tAsg (tLst tNil) (gName 4)) _ _ [some (V.ref a), some (V.ref p), some (V.ref q), some (V.ref wl), none, none, none, none, none, none, none, none, none, none, none, none, none, none] (upd H3 wl (.lst (ws.map V.str)))
    generalize upd H3 wl (.lst (ws.map V.str)) = H4 at ew hs3
    clear s23 e3 hqe hq2 hwl hq3 s3 lt2
    refine asg_of ⟨Nat.zero_le _, fun lp hlp => ?_⟩
    have nlp := hs3.ne_new hlp
    have nwlp : wl ≠ lp := of_none hlp ew
    show tSeq (tFor (iRng1 (tCons (tC (.int ((2 : Nat) : Int))) tNil)) (gName 5) _) _ _ [some (V.ref a), some (V.ref p), some (V.ref q), some (V.ref wl), some (V.ref lp), none, none, none, none, none, none, none, none, none, none, none, none, none] _
    refine ⟨2, rfl, by decide, by decide, ?_⟩
    refine for_range (lo := 0) (n := 2) (fun i σ H' => ∃ (y z : Option V) (us : List It6), σ = [some (V.ref a), some (V.ref p), some (V.ref q), some (V.ref wl), some (V.ref lp), y, z, none, none, none, none, none, none, none, none, none, none, none] ∧ us.length = i ∧ (∀ u ∈ us, ItOk p H' ws u ∧ u.t ≠ lp ∧ u.d ≠ lp) ∧ H' lp = some (.lst (us.map fun u => V.ref u.t)) ∧ H' wl = some (.lst (ws.map V.str)) ∧ SrcAt H' p (40 + 60 * i))
      ⟨none, none, [], rfl, rfl, fun _ h => absurd h List.not_mem_nil, upd_same, by rw [upd_ne nwlp]; exact ew, hs3.new hlp⟩ ?_ ?_
    · rintro i σ H5 hi ⟨y, z, us, rfl, lu, hus, elp, ewl, hs5⟩
      have lws : (ws.map V.str).length = 8 := by rw [List.length_map, W.ln]
      show tSeq (tAsg _ (gName 6)) _ _ [some (V.ref a), some (V.ref p), some (V.ref q), some (V.ref wl), some (V.ref lp), some (V.int (0 + (i : Int))), z, none, none, none, none, none, none, none, none, none, none, none] H5
      refine asg_of ⟨_, rfl, _, rfl, p, wl, ws.map V.str, _, rfl, hs5, by omega, SqL.of ewl, nwl, by omega, fun so zs H6 sz hso eso hs6 k6 => ?_⟩
      obtain ⟨ys, sy, ez⟩ := List.sublist_map_iff.mp sz
      subst ez
      have nso := hs5.ne_new hso
      have ny := sy.nodup W.nd
      have lys : ys.length ≤ 8 := by have := sy.length_le; rw [W.ln] at this; exact this
      have elp6 := k6 _ _ nlp elp
      refine ⟨_, rfl, .inl ⟨rfl, _, SqL.of elp6⟩, _, rfl, ?_⟩
      refine bigs_of (p := p) (n := 40 + 60 * i + 8) (K := K) (ys := ys) (l := so) rfl rfl (SqL.of eso) nso ny (by omega) (by rw [lws] at hs6; exact hs6) (by omega) fun d N H7 hd k7 hs7 ed nd' hk bN => ?_
      refine ⟨_, rfl, p, _, rfl, hs7, by omega, fun n H8 bn hs8 k8 => ?_⟩
      refine ⟨(by show 2 ≤ sizeLine; decide), fun t ht => ?_⟩
      have ntp := hs8.ne_new ht
      have k58 := k6.trans (k7.trans k8)
      have elp8 := k58 _ _ nlp elp
      have ed8 := k8 _ _ nd' ed
      have ntl : lp ≠ t := of_none ht elp8
      have ntd : d ≠ t := of_none ht ed8
      have ndl : d ≠ lp := fun e => by
        have := k7 _ _ nlp elp6
        rw [← e, ed] at this
        cases this
      refine ⟨lp, _, _, rfl, rfl, by rw [upd_ne ntl]; exact elp8, by rw [List.length_map, lu, sizeLine_eq]; omega, ?_⟩
      refine ⟨_, _, us ++ [⟨t, d, N, n⟩], rfl, by rw [List.length_append, lu]; rfl, fun u hu => ?_, ?_, ?_, ?_⟩
      · rcases List.mem_append.mp hu with h | h
        · obtain ⟨o1, n1, n2⟩ := hus u h
          have o2 := o1.keep k58
          refine ⟨(o2.put (of_none ht o2.ht) (of_none ht o2.hd)).put n1 n2, n1, n2⟩
        · rw [List.mem_singleton.mp h]
          refine ⟨⟨ntp, nd', by rw [upd_ne ntl.symm, upd_same], by rw [upd_ne ndl, upd_ne ntd]; exact ed8, by rw [hk]; exact ny, fun x hx => sy.subset (by rw [← hk]; exact hx), bN, bn⟩, ntl.symm, ndl⟩
      · rw [upd_same, List.map_append]
        rfl
      · rw [upd_ne nwlp, upd_ne (of_none ht (k58 _ _ nwl ewl))]
        exact k58 _ _ nwl ewl
      · refine ((hs8.new ht).put nlp).mono ?_
        omega
    rintro σ H5 ⟨y, z, us, rfl, lu, hus, elp, ewl, hs5⟩
    obtain ⟨u0, u1, rfl⟩ : ∃ u0 u1, us = [u0, u1] := by
      match us, lu with
      | [u0, u1], _ => exact ⟨u0, u1, rfl⟩
    obtain ⟨o0, n00, n01⟩ := hus u0 List.mem_cons_self
    obtain ⟨o1, n10, n11⟩ := hus u1 (List.mem_cons_of_mem _ List.mem_cons_self)
    clear hus
    have elp' : H5 lp = some (.lst [V.ref u0.t, V.ref u1.t]) := elp
    have hs5' : SrcAt H5 p 160 := hs5
    clear elp hs5
    refine nxs_of ?_
    refine gen_of (P := fun σ' H' => ∃ v0 v1 : It6, σ' = [some (V.ref a), some (V.ref p), some (V.ref q), some (V.ref wl), some (V.ref lp), y, z, none, none, none, none, none, none, none, none, none, none, none] ∧ ItOk p H' ws v0 ∧ ItOk p H' ws v1 ∧ H' lp = some (.lst [V.ref v0.t, V.ref v1.t]) ∧ H' wl = some (.lst (ws.map V.str)) ∧ SrcAt H' p 200) (fun Z hZ => ?_) (fun σ' H6 hP => ?_)
    · refine ifs_of (test_of (draw_of rfl hs5' (by decide) (by decide) (by decide +kernel) fun j H6 j0 j1 hs6 k6 => ⟨rfl, _, rfl, ite_of (fun _ => ?_) (fun _ => nx_of (hZ _ _ ⟨u0, u1, rfl, o0.keep k6, o1.keep k6, k6 _ _ nlp elp', k6 _ _ nwl ewl, hs6.mono (by decide)⟩))⟩))
      have p0 := o0.keep k6
      have elp6 := k6 _ _ nlp elp'
      have ewl6 := k6 _ _ nwl ewl
      refine pix_of rfl elp6 rfl p0.ht rfl ⟨u0.d, u0.N, rfl, p0.hd, p0.nd, by have := len_in W p0.nd p0.sb; omega, fun l0 L H7 hl0 s7 eL pr => ?_⟩
      refine ⟨l0, _, rfl, eL, fun H8 l ts s8 hl _ _ el hP => ⟨l, _, rfl, SqL.of el, fun r hr => ?_⟩⟩
      have s68 := s7.trans s8
      have nLr : (ks L.reverse).Nodup := by rw [ks_rev]; exact (List.reverse_perm _).nodup_iff.mpr pr.cn.nd
      refine ⟨r, ts.reverse, (L.reverse).map kvi, rfl, SqL.of (by rw [List.map_reverse]; exact upd_same), ?_, fun d2 hd2 => ?_⟩
      · rw [List.map_reverse]
        exact paired_rev (paired_same (fun t q h => SqT.of (same_new hr _ _ h)) hP)
      rw [mergeK_nil nLr]
      have s69 := (s68.trans (same_new (o := .lst (ts.map V.ref).reverse) hr)).trans (same_new (o := dI L.reverse) hd2)
      have ed2 : (upd (upd H8 r (.lst (ts.map V.ref).reverse)) d2 (dI L.reverse)) d2 = some (dI L.reverse) := upd_same
      have hs9 := hs6.same s69
      have nd2 : d2 ≠ p := ((hs6.same s68).new hr).ne_new hd2
      show tOp _ _ _ [some (V.ref a), some (V.ref p), some (V.ref q), some (V.ref wl), some (V.ref lp), y, z, none, none, none, none, none, none, none, none, none, none, none] (upd (upd H8 r (.lst (ts.map V.ref).reverse)) d2 (dI L.reverse)) _
      generalize upd (upd H8 r (.lst (ts.map V.ref).reverse)) d2 (dI L.reverse) = H9 at s69 ed2 hs9
      refine pix_of rfl (s69 _ _ elp6) rfl (s69 _ _ p0.ht) rfl ⟨(by show 2 ≤ sizeLine; decide), fun t ht => ?_⟩
      have ntp := hs9.ne_new ht
      have elp9 := same_new (o := .tup [V.ref d2, V.int u0.n]) ht _ _ (s69 _ _ elp6)
      refine ⟨_, rfl, lp, _, 1, 1, rfl, rfl, elp9, rfl, hZ _ _ ?_⟩
      have ntl : lp ≠ t := of_none ht (s69 _ _ elp6)
      have nd2l : d2 ≠ lp := fun e => by
        have := s69 _ _ elp6
        rw [← e, ed2] at this
        cases this
      refine ⟨u0, ⟨t, d2, L.reverse, u0.n⟩, rfl, ⟨p0.tp, p0.dp, ?_, ?_, p0.nd, p0.sb, p0.b, p0.bn⟩, ⟨ntp, nd2, ?_, ?_, nLr, fun x hx => ?_, ?_, p0.bn⟩, upd_same, ?_, ((hs9.new ht).put nlp).mono (by decide)⟩
      · rw [upd_ne n00]
        exact same_new ht _ _ (s69 _ _ p0.ht)
      · rw [upd_ne n01]
        exact same_new ht _ _ (s69 _ _ p0.hd)
      · rw [upd_ne ntl.symm, upd_same]
      · rw [upd_ne nd2l]
        exact same_new ht _ _ ed2
      · rw [ks_rev] at hx
        exact p0.sb x (pr.s x (List.mem_reverse.mp hx))
      · exact bd_get (bd_get p0.b pr.g) (get0_rev pr.cn.nd)
      · rw [upd_ne nwlp]
        exact same_new ht _ _ (s69 _ _ ewl6)
    obtain ⟨v0, v1, rfl, i0, i1, elp6, ewl6, hs6⟩ := hP
    clear o0 o1 n00 n01 n10 n11 elp' ewl hs5'
    have lws : (ws.map V.str).length = 8 := by rw [List.length_map, W.ln]
    show tSeq (tAsg _ (gName 7)) _ _ [some (V.ref a), some (V.ref p), some (V.ref q), some (V.ref wl), some (V.ref lp), y, z, none, none, none, none, none, none, none, none, none, none, none] H6
    refine asg_of ⟨_, rfl, _, rfl, p, wl, ws.map V.str, _, rfl, hs6, by decide, SqL.of ewl6, nwl, by omega, by omega, fun so FF zs H7 pF szF lz hso eso hs7 k7 => ?_⟩
    obtain ⟨us, eu, nu, hus⟩ := strs_in (xs := ws) (vs := zs) (fun v hv => pF.mem_iff.mp (szF.subset hv)) (szF.nodup (pF.nodup_iff.mpr (nodup_strs W.nd)))
    subst eu
    have lus : us.length ≤ 8 := by
      have h1 := szF.length_le
      have h2 := pF.length_eq
      rw [List.length_map] at h1
      omega
    refine bigs_of (p := p) (n := 209) (K := K) (ys := us) (l := so) rfl rfl (SqL.of eso) (hs6.ne_new hso) nu (by omega) (by rw [lws] at hs7; exact hs7) (by decide) fun wo Wt H8 hwo k8 hs8 ewo nwo hkW bW => ?_
    have k68 := k7.trans k8
    have F0 : Fs p H8 [(lp, .lst [V.ref v0.t, V.ref v1.t]), (v0.t, .tup [.ref v0.d, .int v0.n]), (v1.t, .tup [.ref v1.d, .int v1.n]), (v0.d, dI v0.N), (v1.d, dI v1.N), (wl, .lst (ws.map V.str)), (wo, dI Wt)] :=
      Fs.cons nlp (k68 _ _ nlp elp6) (Fs.cons i0.tp (k68 _ _ i0.tp i0.ht) (Fs.cons i1.tp (k68 _ _ i1.tp i1.ht) (Fs.cons i0.dp (k68 _ _ i0.dp i0.hd) (Fs.cons i1.dp (k68 _ _ i1.dp i1.hd) (Fs.cons nwl (k68 _ _ nwl ewl6) (Fs.cons nwo ewo Fs.nil))))))
    have W0 := okW_in W i0.nd i0.sb
    have W1 := okW_in W i1.nd i1.sb
    have n0' := i0.nd
    have n1' := i1.nd
    have sb0 := i0.sb
    have sb1 := i1.sb
    have b0 := i0.b
    have b1 := i1.b
    have bn0 := i0.bn
    have bn1 := i1.bn
    have hs8' : SrcAt H8 p 300 := hs8.mono (by decide)
    clear i0 i1 elp6 ewl6 hs6 hs7 k7 k8 k68 eso hso ewo hs8
    show tSeq (tAsg _ (gName 8)) _ _ [some (V.ref a), some (V.ref p), some (V.ref q), some (V.ref wl), some (V.ref lp), y, z, some (V.ref wo), none, none, none, none, none, none, none, none, none, none] H8
    refine asg_of (pix_of rfl (F0.get 0 rfl) rfl (F0.get 1 rfl) rfl ⟨v0.d, v0.N.map kvi, rfl, .inl (F0.get 3 rfl), fun ha hha => ?_⟩)
    have s9 := same_new (o := dI v0.N) hha
    have e9 : (upd H8 ha (dI v0.N)) ha = some (dI v0.N) := upd_same
    have F9 := F0.same s9
    have hs9 := hs8'.same s9
    have nhp := hs8'.ne_new hha
    have Fh : ∀ (i : Nat) (b : Addr) (o : HO), [(lp, HO.lst [V.ref v0.t, V.ref v1.t]), (v0.t, .tup [.ref v0.d, .int v0.n]), (v1.t, .tup [.ref v1.d, .int v1.n]), (v0.d, dI v0.N), (v1.d, dI v1.N), (wl, .lst (ws.map V.str)), (wo, dI Wt)][i]? = some (b, o) → b ≠ ha := fun i b o e => of_none hha (F0 i b o e).2
    show tSeq (Sl.tPar3 9 10 11 _) _ _ [some (V.ref a), some (V.ref p), some (V.ref q), some (V.ref wl), some (V.ref lp), y, z, some (V.ref wo), some (V.ref ha), none, none, none, none, none, none, none, none, none] (upd H8 ha (dI v0.N))
    generalize upd H8 ha (dI v0.N) = H9 at e9 F9 hs9
    refine ⟨_, rfl, pix_of rfl (F9.get 0 rfl) rfl (F9.get 1 rfl) rfl ?_⟩
    intro on dx0 hon hdx0 ne0
    refine finit_of hon hdx0 ne0 e9 W0 fun H10 g0 A0 hg0 s10 f0 pr0 => ⟨rfl, ?_⟩
    have F10 := F9.same s10
    refine pix_of rfl (F10.get 0 rfl) rfl (F10.get 2 rfl) rfl (pix_of rfl (F10.get 0 rfl) rfl (F10.get 2 rfl) rfl ?_)
    intro ot dx1 hot hdx1 ne1
    refine finit_of hot hdx1 ne1 (F10.get 4 rfl) W1 fun H11 g1 A1 hg1 s11 f1 pr1 => ⟨rfl, ?_⟩
    have F11 := F10.same s11
    refine ⟨_, rfl, wo, Wt.map kvi, rfl, .inl (F11.get 6 rfl), fun he hhe => ⟨_, _, _, rfl, nxs_of ?_⟩⟩
    have s12 := same_new (o := dI Wt) hhe
    have F12 := (F11.same s12).app (Fs.cons (hs9.ne_new hon) ((s11.trans s12) _ _ f0.1) (Fs.cons (hs9.ne_new hg0) ((s11.trans s12) _ _ f0.2) (Fs.cons ((hs9.same s10).ne_new hot) (s12 _ _ f1.1) (Fs.cons ((hs9.same s10).ne_new hg1) (s12 _ _ f1.2) (Fs.cons (((hs9.same s10).same s11).ne_new hhe) (show (upd H11 he (dI Wt)) he = some (dI Wt) from upd_same) Fs.nil)))))
    have e12 := ((s10.trans s11).trans s12) _ _ e9
    have hs12 := ((hs9.same s10).same s11).same s12
    have nh7 : on ≠ ha := (of_none hon e9).symm
    have nh8 : g0 ≠ ha := (of_none hg0 e9).symm
    have nh9 : ot ≠ ha := (of_none hot (s10 _ _ e9)).symm
    have nh10 : g1 ≠ ha := (of_none hg1 (s10 _ _ e9)).symm
    have nh11 : he ≠ ha := (of_none hhe ((s10.trans s11) _ _ e9)).symm
    show tSeq (tIfS _ _ _) _ _ [some (V.ref a), some (V.ref p), some (V.ref q), some (V.ref wl), some (V.ref lp), y, z, some (V.ref wo), some (V.ref ha), some (V.ref on), some (V.ref ot), some (V.ref he), none, none, none, none, none, none] (upd H11 he (dI Wt))
    generalize upd H11 he (dI Wt) = H12 at F12 e12 hs12
    clear F0 F9 F10 F11 s9 s10 s11 s12 f0 f1 hs8' hs9 e9 hha hon hg0 hot hg1 hhe
    have cA0 := pr0.cn
    have cA1 := pr1.cn
    have lN0 : v0.N.length ≤ 8 := len_in W n0' sb0
    have lN1 : v1.N.length ≤ 8 := len_in W n1' sb1
    have oA0 : okW A0 := pr0.ok W0
    have oA1 : okW A1 := pr1.ok W1
    have lA : A0.length + A1.length ≤ 60 := by have := pr0.l; have := pr1.l; omega
    have lA00 : A0.length + A0.length ≤ 60 := by have := pr0.l; omega
    have bA0 : bd 700 A0 := bd_mono (bd_get b0 pr0.g) (by decide)
    have bW7 : bd 700 Wt := bd_mono bW (by decide)
    refine ifs_of (test_of ⟨_, rfl, pix_of rfl (F12.get 0 rfl) rfl (F12.get 1 rfl) rfl ⟨ha, v0.d, _, _, rfl, rfl, .inl e12, .inl (F12.get 3 rfl), flat_dI _, flat_dI _, _, rfl, ?_⟩⟩)
    rw [dicEq_self n0']
    refine iteF (nx_of ?_)
    show tSeq (sDPut (tVar 8) (tC (.str "late")) (tC (.int 5))) _ _ [some (V.ref a), some (V.ref p), some (V.ref q), some (V.ref wl), some (V.ref lp), y, z, some (V.ref wo), some (V.ref ha), some (V.ref on), some (V.ref ot), some (V.ref he), none, none, none, none, none, none] H12
    refine ⟨_, rfl, ha, _, rfl, DPut.k (k := .inr "late") e12 (by rw [List.length_map, sizeLine_eq]; omega), nxs_of ?_⟩
    have F13 : Fs p (upd H12 ha (.dK (putK (v0.N.map kvi) (.inr "late") (.int 5)))) _ := F12.put fun i b o e => by
      match i, e with
      | 0, e => exact Fh 0 b o e
      | 1, e => exact Fh 1 b o e
      | 2, e => exact Fh 2 b o e
      | 3, e => exact Fh 3 b o e
      | 4, e => exact Fh 4 b o e
      | 5, e => exact Fh 5 b o e
      | 6, e => exact Fh 6 b o e
      | 7, e => cases Option.some.inj e; exact nh7
      | 8, e => cases Option.some.inj e; exact nh8
      | 9, e => cases Option.some.inj e; exact nh9
      | 10, e => cases Option.some.inj e; exact nh10
      | 11, e => cases Option.some.inj e; exact nh11
      | i + 12, e => simp at e
    have hs13 := hs12.put (o := .dK (putK (v0.N.map kvi) (.inr "late") (.int 5))) nhp
    clear F12 hs12 e12 Fh nh7 nh8 nh9 nh10 nh11
    show tSeq (tDrop _) _ _ [some (V.ref a), some (V.ref p), some (V.ref q), some (V.ref wl), some (V.ref lp), y, z, some (V.ref wo), some (V.ref ha), some (V.ref on), some (V.ref ot), some (V.ref he), none, none, none, none, none, none] (upd H12 ha (.dK (putK (v0.N.map kvi) (.inr "late") (.int 5))))
    generalize upd H12 ha (.dK (putK (v0.N.map kvi) (.inr "late") (.int 5))) = H13 at F13 hs13
    refine ⟨_, rfl, on, dx0, _, rfl, F13.get 7 rfl, rfl, on, A0, v0.n, rfl, ⟨dx0, g0, F13.get 7 rfl, F13.get 8 rfl⟩, fun pp hpp => ⟨.inr (.inr (.inl ⟨rfl, .inl ⟨_, upd_same⟩⟩)), pp, _, rfl, rfl, upd_same, nxs_of ?_⟩⟩
    have s14 : Same H13 (upd (upd H13 pp (dI A0)) pp (.dK [])) := fun c o e => by
      rw [upd_ne (ne_of_none e hpp), upd_ne (ne_of_none e hpp)]
      exact e
    have F14 := F13.same s14
    have hs14 := hs13.same s14
    show tSeq (tIfS _ _ _) _ _ [some (V.ref a), some (V.ref p), some (V.ref q), some (V.ref wl), some (V.ref lp), y, z, some (V.ref wo), some (V.ref ha), some (V.ref on), some (V.ref ot), some (V.ref he), none, none, none, none, none, none] (upd (upd H13 pp (dI A0)) pp (.dK []))
    generalize upd (upd H13 pp (dI A0)) pp (.dK []) = H14 at F14 hs14
    clear F13 hs13 s14 hpp
    refine ifs_of ⟨_, rfl, pix_of rfl (F14.get 0 rfl) rfl (F14.get 1 rfl) rfl (pix_of rfl (F14.get 0 rfl) rfl (F14.get 1 rfl) rfl ⟨_, rfl, on, v0.d, wo, A0, v0.N, Wt, v0.n, rfl, ⟨dx0, g0, F14.get 7 rfl, F14.get 8 rfl⟩, F14.get 3 rfl, F14.get 6 rfl, n0', by omega, cA0, pr0.g, bA0, bW7, fun H15 s15 => ⟨true, rfl, iteF (nx_of ?_)⟩⟩)⟩
    have F15 := F14.same s15
    have hs15 := hs14.same s15
    show tSeq (tAsg _ (gName 12)) _ _ [some (V.ref a), some (V.ref p), some (V.ref q), some (V.ref wl), some (V.ref lp), y, z, some (V.ref wo), some (V.ref ha), some (V.ref on), some (V.ref ot), some (V.ref he), none, none, none, none, none, none] H15
    refine gen_of (P := fun σ' H' => σ' = [some (V.ref a), some (V.ref p), some (V.ref q), some (V.ref wl), some (V.ref lp), y, z, some (V.ref wo), some (V.ref ha), some (V.ref on), some (V.ref ot), some (V.ref he), some (V.bl (eqI A0 A1 && decide (V.int v0.n = V.int v1.n))), none, none, none, none, none] ∧ Same H15 H') (fun Z hZ => ?_) (fun σ' H16 hP => ?_)
    · refine asg_of (pix_of rfl (F15.get 0 rfl) rfl (F15.get 1 rfl) rfl ⟨v0.d, v0.N, rfl, F15.get 3 rfl, n0', by omega, fun l0 L0 H16 hl0 s16 el0 q0 => ?_⟩)
      have F16 := F15.same s16
      refine pix_of rfl (F16.get 0 rfl) rfl (F16.get 2 rfl) rfl ⟨v1.d, v1.N, rfl, F16.get 4 rfl, n1', by omega, fun l1 L1 H17 hl1 s17 el1 q1 => ?_⟩
      have F17 := F16.same s17
      have e0 : L0 = A0 := cn_eq q0.cn cA0 fun x => by rw [q0.g, pr0.g]
      have e1 : L1 = A1 := cn_eq q1.cn cA1 fun x => by rw [q1.g, pr1.g]
      subst e0 e1
      refine ⟨l0, l1, _, _, rfl, rfl, .inl (s17 _ _ el0), .inl el1, flat_dI _, flat_dI _, _, rfl, ite_of (fun c => ?_) (fun c => ?_)⟩
      · refine pix_of rfl (F17.get 0 rfl) rfl (F17.get 1 rfl) rfl (pix_of rfl (F17.get 0 rfl) rfl (F17.get 2 rfl) rfl ⟨rfl, hZ _ _ ⟨?_, s16.trans s17⟩⟩)
        have c' : eqI L0 L1 = true := c
        rw [c', Bool.true_and]
        rfl
      · refine hZ _ _ ⟨?_, s16.trans s17⟩
        have c' : eqI L0 L1 = false := c
        rw [c', Bool.false_and]
        rfl
    obtain ⟨rfl, s16⟩ := hP
    have F16 := F15.same s16
    have hs16 := hs15.same s16
    clear F14 F15 hs14 hs15 s15 s16
    have feq : sp_feq K C [.ref on, .ref ot] H16 = sp_feq K C [.ref on, .ref ot] H16 := rfl
    generalize hsm : (eqI A0 A1 && decide (V.int v0.n = V.int v1.n)) = sm
    refine ifs_of (or_of (test_of ⟨_, rfl, _, rfl, on, dx0, _, rfl, F16.get 7 rfl, .inl ⟨ot, dx1, _, rfl, F16.get 9 rfl⟩, on, _, A0, v0.n, rfl, ⟨dx0, g0, F16.get 7 rfl, F16.get 8 rfl⟩, .inl ⟨ot, A1, v1.n, rfl, ⟨dx1, g1, F16.get 9 rfl, F16.get 10 rfl⟩, _, rfl, _, rfl, rfl, _, rfl, ?_⟩⟩))
    rw [hsm, decide_eq_true rfl]
    refine iteF (or_of (test_of ⟨_, rfl, _, rfl, on, dx0, _, rfl, F16.get 7 rfl, .inl ⟨ot, dx1, _, rfl, F16.get 9 rfl⟩, on, _, A0, v0.n, rfl, ⟨dx0, g0, F16.get 7 rfl, F16.get 8 rfl⟩, .inl ⟨ot, A1, v1.n, rfl, ⟨dx1, g1, F16.get 9 rfl, F16.get 10 rfl⟩, _, rfl, _, rfl, rfl, _, rfl, ?_⟩⟩))
    rw [hsm, show decide (V.bl (!sm) = V.bl sm) = false by cases sm <;> rfl]
    refine iteF (or_of (test_of ⟨_, rfl, pix_of rfl (F16.get 0 rfl) rfl (F16.get 1 rfl) rfl ⟨on, dx0, _, rfl, F16.get 7 rfl, .inr ⟨.type "dict", .base (.dK (F16.get 3 rfl)), T.nD⟩, on, _, A0, v0.n, rfl, ⟨dx0, g0, F16.get 7 rfl, F16.get 8 rfl⟩, .inr ⟨.type "dict", .base (.dK (F16.get 3 rfl)), T.kD, _, rfl, _, rfl, iteF ?_⟩⟩⟩))
    refine test_of fun z0 hz0 => ?_
    have s17 := same_new (o := .dK []) hz0
    have F17 := F16.same s17
    refine pix_of rfl (F17.get 0 rfl) rfl (F17.get 1 rfl) rfl ?_
    intro fn dxf hfn hdxf nef
    have okn : okW [] := ⟨List.nodup_nil, fun _ h => absurd h List.not_mem_nil, by decide⟩
    refine finit_of hfn hdxf nef (N := []) upd_same okn fun H18 gf Af hgf s18 ff prf => ⟨rfl, ?_⟩
    have F18 := F17.same s18
    refine pix_of rfl (F18.get 0 rfl) rfl (F18.get 1 rfl) rfl ⟨fn, dxf, _, rfl, ff.1, .inr ⟨.type "int", .base (.int _), T.nI⟩, fn, _, Af, v0.n, rfl, ⟨dxf, gf, ff⟩, .inr ⟨.type "int", .base (.int _), T.kI, _, rfl, _, rfl, iteF (nx_of ?_)⟩⟩
    have hs18 := (hs16.same s17).same s18
    clear F16 F17 hs16 s17 s18 hz0 hfn hdxf hgf ff feq
    show tSeq (tAsg _ (gName 13)) _ _ [some (V.ref a), some (V.ref p), some (V.ref q), some (V.ref wl), some (V.ref lp), y, z, some (V.ref wo), some (V.ref ha), some (V.ref on), some (V.ref ot), some (V.ref he), some (V.bl sm), none, none, none, none, none] H18
    refine asg_of ⟨_, rfl, p, _, rfl, hs18, by decide, fun tm H19 btm hs19 k19 => ?_⟩
    have F19 := F18.keep k19
    clear F18 hs18 hs19 k19
    have lw8 : ws.length ≤ 100 := by rw [W.ln]; decide
    show tSeq (tAsg _ (gName 14)) _ _ [some (V.ref a), some (V.ref p), some (V.ref q), some (V.ref wl), some (V.ref lp), y, z, some (V.ref wo), some (V.ref ha), some (V.ref on), some (V.ref ot), some (V.ref he), some (V.bl sm), some (V.int tm), none, none, none, none] H19
    refine asg_of ⟨_, rfl, wl, rfl, ⟨_, SqL.of (F19.get 5 rfl)⟩, fun D1 hD1 => comb_of (op := fun i j => i + j) (p := p) rfl rfl (F19.get 0 rfl) (F19.get 1 rfl) (F19.get 2 rfl) (F19.get 5 rfl) lw8 (F19.get 3 rfl) (F19.get 4 rfl) hD1 fun SM H20 s20 kS vS ⟨ts20, hd20, hP20⟩ => ?_⟩
    have nS : (ks SM).Nodup := by rw [kS]; exact W.nd
    refine ⟨D1, ts20, SM.map kvi, rfl, SqL.of hd20, paired_kvi hP20, fun ds hds => ?_⟩
    rw [mergeK_nil nS]
    have gS := comb_get (op := fun i j => i + j) rfl W.nd kS vS sb0 sb1
    have F21 : Fs p (upd H20 ds (dI SM)) _ := (F19.same (s20.trans (same_new hds)))
    have eds : (upd H20 ds (dI SM)) ds = some (dI SM) := upd_same
    have lSM : SM.length ≤ 60 := by rw [← ks_len, kS, W.ln]; decide
    show tSeq (tAsg _ (gName 15)) _ _ [some (V.ref a), some (V.ref p), some (V.ref q), some (V.ref wl), some (V.ref lp), y, z, some (V.ref wo), some (V.ref ha), some (V.ref on), some (V.ref ot), some (V.ref he), some (V.bl sm), some (V.int tm), some (V.ref ds), none, none, none] (upd H20 ds (dI SM))
    generalize upd H20 ds (dI SM) = H21 at F21 eds
    clear F19 s20 hd20 hP20 hds hD1
    refine asg_of ⟨_, rfl, wl, rfl, ⟨_, SqL.of (F21.get 5 rfl)⟩, fun D2 hD2 => comb_of (op := fun i j => i - j) (p := p) rfl rfl (F21.get 0 rfl) (F21.get 1 rfl) (F21.get 2 rfl) (F21.get 5 rfl) lw8 (F21.get 3 rfl) (F21.get 4 rfl) hD2 fun DM H22 s22 kD vD ⟨ts22, hd22, hP22⟩ => ?_⟩
    have nDM : (ks DM).Nodup := by rw [kD]; exact W.nd
    refine ⟨D2, ts22, DM.map kvi, rfl, SqL.of hd22, paired_kvi hP22, fun dd hdd => ?_⟩
    rw [mergeK_nil nDM]
    have gD := comb_get (op := fun i j => i - j) rfl W.nd kD vD sb0 sb1
    have s23 := s22.trans (same_new (o := dI DM) hdd)
    have F23 : Fs p (upd H22 dd (dI DM)) _ := F21.same s23
    have eds2 := s23 _ _ eds
    have edd : (upd H22 dd (dI DM)) dd = some (dI DM) := upd_same
    have lDM : DM.length ≤ 60 := by rw [← ks_len, kD, W.ln]; decide
    show tSeq (tAsg _ (gName 16)) _ _ [some (V.ref a), some (V.ref p), some (V.ref q), some (V.ref wl), some (V.ref lp), y, z, some (V.ref wo), some (V.ref ha), some (V.ref on), some (V.ref ot), some (V.ref he), some (V.bl sm), some (V.int tm), some (V.ref ds), some (V.ref dd), none, none] (upd H22 dd (dI DM))
    generalize upd H22 dd (dI DM) = H23 at F23 eds2 edd
    clear F21 s22 s23 hd22 hP22 hdd hD2 eds
    refine asg_of ⟨_, rfl, wl, rfl, ⟨_, SqL.of (F23.get 5 rfl)⟩, fun D3 hD3 => mult_of (t1 := v1.t) (m := tm) rfl rfl rfl b0 btm (F23.get 0 rfl) (F23.get 1 rfl) (F23.get 5 rfl) lw8 (F23.get 3 rfl) hD3 fun MM H24 s24 kM vM ⟨ts24, hd24, hP24⟩ => ?_⟩
    have nMM : (ks MM).Nodup := by rw [kM]; exact W.nd
    refine ⟨D3, ts24, MM.map kvi, rfl, SqL.of hd24, paired_kvi hP24, fun dm hdm => ?_⟩
    rw [mergeK_nil nMM]
    have gM := comb_get (N := []) (op := fun i _ => i * tm) (by simp) W.nd kM vM sb0 (fun _ h => absurd h List.not_mem_nil)
    have s25 := s24.trans (same_new (o := dI MM) hdm)
    have F25 : Fs p (upd H24 dm (dI MM)) _ := F23.same s25
    have eds3 := s25 _ _ eds2
    have edd3 := s25 _ _ edd
    have edm : (upd H24 dm (dI MM)) dm = some (dI MM) := upd_same
    have lMM : MM.length ≤ 60 := by rw [← ks_len, kM, W.ln]; decide
    show tSeq (tIfS _ _ _) _ _ [some (V.ref a), some (V.ref p), some (V.ref q), some (V.ref wl), some (V.ref lp), y, z, some (V.ref wo), some (V.ref ha), some (V.ref on), some (V.ref ot), some (V.ref he), some (V.bl sm), some (V.int tm), some (V.ref ds), some (V.ref dd), some (V.ref dm), none] (upd H24 dm (dI MM))
    generalize upd H24 dm (dI MM) = H25 at F25 eds3 edd3 edm
    clear F23 s24 s25 hd24 hP24 hdm hD3 eds2 edd
    -- the sum
    refine ifs_of ⟨_, rfl, _, rfl, on, dx0, _, ot, dx1, _, rfl, F25.get 7 rfl, rfl, F25.get 9 rfl, on, ot, A0, A1, v0.n, v1.n, rfl, ⟨dx0, g0, F25.get 7 rfl, F25.get 8 rfl⟩, ⟨dx1, g1, F25.get 9 rfl, F25.get 10 rfl⟩, oA0, oA1, lA, fun S1 gS1 _ r1 B1 H26 s26 hB1 cB1 gB1 _ => ?_⟩
    have F26 := F25.same s26
    have e1 : ∀ x, get0 B1 x = get0 SM x := fun x => by rw [gB1, gS1, gS, pr0.g, pr1.g]
    have bB1 : bd 700 B1 := fun x => by
      rw [gB1, gS1, pr0.g, pr1.g]
      exact Nat.lt_of_lt_of_le (natAbs_sum (b0 x) (b1 x)) (Nat.pow_le_pow_right (by decide) (by decide))
    refine ⟨_, rfl, pix_of rfl (F26.get 0 rfl) rfl (F26.get 1 rfl) rfl (pix_of rfl (F26.get 0 rfl) rfl (F26.get 2 rfl) rfl ⟨_, _, rfl, rfl, _, rfl, r1, ds, wo, B1, SM, Wt, _, rfl, hB1, s26 _ _ eds3, F26.get 6 rfl, nS, lSM, cB1, e1, bB1, bW7, fun H27 s27 => ⟨true, rfl, iteF (nx_of ?_)⟩⟩)⟩
    have F27 := F26.same s27
    have edd4 := (s26.trans s27) _ _ edd3
    have edm4 := (s26.trans s27) _ _ edm
    clear F25 F26 s26 s27 hB1 eds3 edd3 edm
    -- the difference
    show tSeq (tIfS _ _ _) _ _ [some (V.ref a), some (V.ref p), some (V.ref q), some (V.ref wl), some (V.ref lp), y, z, some (V.ref wo), some (V.ref ha), some (V.ref on), some (V.ref ot), some (V.ref he), some (V.bl sm), some (V.int tm), some (V.ref ds), some (V.ref dd), some (V.ref dm), none] H27
    refine ifs_of ⟨_, rfl, _, rfl, on, dx0, _, ot, dx1, _, rfl, F27.get 7 rfl, rfl, F27.get 9 rfl, on, ot, A0, A1, v0.n, v1.n, rfl, ⟨dx0, g0, F27.get 7 rfl, F27.get 8 rfl⟩, ⟨dx1, g1, F27.get 9 rfl, F27.get 10 rfl⟩, oA0, oA1, lA, fun S2 gS2 _ r2 B2 H28 s28 hB2 cB2 gB2 _ => ?_⟩
    have F28 := F27.same s28
    have e2 : ∀ x, get0 B2 x = get0 DM x := fun x => by rw [gB2, gS2, gD, pr0.g, pr1.g]
    have bB2 : bd 700 B2 := fun x => by
      rw [gB2, gS2, pr0.g, pr1.g]
      exact Nat.lt_of_lt_of_le (natAbs_dif (b0 x) (b1 x)) (Nat.pow_le_pow_right (by decide) (by decide))
    refine ⟨_, rfl, pix_of rfl (F28.get 0 rfl) rfl (F28.get 1 rfl) rfl (pix_of rfl (F28.get 0 rfl) rfl (F28.get 2 rfl) rfl ⟨_, _, rfl, rfl, _, rfl, r2, dd, wo, B2, DM, Wt, _, rfl, hB2, s28 _ _ edd4, F28.get 6 rfl, nDM, lDM, cB2, e2, bB2, bW7, fun H29 s29 => ⟨true, rfl, iteF (nx_of ?_)⟩⟩)⟩
    have F29 := F28.same s29
    have edm5 := (s28.trans s29) _ _ edm4
    clear F27 F28 s28 s29 hB2 edd4 edm4
    show tSeq (tIfS _ _ _) _ _ [some (V.ref a), some (V.ref p), some (V.ref q), some (V.ref wl), some (V.ref lp), y, z, some (V.ref wo), some (V.ref ha), some (V.ref on), some (V.ref ot), some (V.ref he), some (V.bl sm), some (V.int tm), some (V.ref ds), some (V.ref dd), some (V.ref dm), none] H29
    refine ifs_of (or_of (test_of ⟨_, rfl, _, rfl, wo, he, _, _, rfl, rfl, .inl (F29.get 6 rfl), .inl (F29.get 11 rfl), flat_dI _, flat_dI _, _, rfl, ?_⟩))
    have nW : (ks Wt).Nodup := by rw [hkW]; exact nu
    rw [dicEq_self nW]
    refine iteF (test_of fun z1 hz1 => ?_)
    intro fa dxa hfa hdxa nea
    refine finit_of hfa hdxa nea (N := []) upd_same okn fun H30 ga Aa hga s30 ffa pra => ⟨rfl, ?_⟩
    have s30' := (same_new (o := .dK []) hz1).trans s30
    intro z2 hz2
    have s31 := same_new (o := .dK []) hz2
    intro fb dxb hfb hdxb neb
    refine finit_of hfb hdxb neb (N := []) upd_same okn fun H32 gb Ab hgb s32 ffb prb => ⟨rfl, ?_⟩
    have s3032 := s31.trans s32
    have ea : Aa = [] := cn_eq pra.cn cn_nil pra.g
    have eb : Ab = [] := cn_eq prb.cn cn_nil prb.g
    refine ⟨fa, dxa, _, rfl, s3032 _ _ ffa.1, .inl ⟨fb, dxb, _, rfl, ffb.1⟩, fa, _, Aa, 0, rfl, ⟨dxa, ga, ffa.same s3032⟩, .inl ⟨fb, Ab, 0, rfl, ⟨dxb, gb, ffb⟩, _, rfl, _, rfl, ?_⟩⟩
    have ee : (eqI Aa Ab && decide (V.int 0 = V.int 0)) = true := by
      rw [ea, eb]
      rfl
    rw [ee]
    refine iteF (nx_of ?_)
    have F32 := F29.same (s30'.trans s3032)
    have edm6 := (s30'.trans s3032) _ _ edm5
    clear F29 s30 s30' s31 s32 s3032 hz1 hz2 hfa hdxa hga ffa hfb hdxb hgb ffb edm5
    -- the product
    have btm3 : tm.natAbs < 2 ^ 300 := Nat.lt_of_lt_of_le btm (Nat.pow_le_pow_right (by decide) (by decide))
    have bn03 : v0.n.natAbs < 2 ^ 300 := Nat.lt_of_lt_of_le bn0 (Nat.pow_le_pow_right (by decide) (by decide))
    refine ⟨_, rfl, _, rfl, on, dx0, _, tm, rfl, F32.get 7 rfl, rfl, on, A0, v0.n, tm, rfl, ⟨dx0, g0, F32.get 7 rfl, F32.get 8 rfl⟩, oA0, bd_mono (bd_get b0 pr0.g) (by decide), bn03, btm3, fun r3 B3 H33 s33 hB3 cB3 gB3 _ => ?_⟩
    have F33 := F32.same s33
    have g3 : ∀ x, get0 B3 x = get0 v0.N x * tm := fun x => by rw [gB3, get0_mapI (g := fun i => i * tm) (by simp), pr0.g]
    have e3 : ∀ x, get0 B3 x = get0 MM x := fun x => by rw [g3, gM]
    have bB3 : bd 700 B3 := fun x => by
      rw [g3]
      exact Nat.lt_of_lt_of_le (wide_lt (b0 x) btm) (Nat.pow_le_pow_right (by decide) (by decide))
    refine ⟨_, rfl, pix_of rfl (F33.get 0 rfl) rfl (F33.get 1 rfl) rfl ⟨_, rfl, _, _, rfl, rfl, wide_mul (a := 300) (b := 300) bn03 btm3 (by decide) (by decide) (by decide), _, rfl, r3, dm, wo, B3, MM, Wt, _, rfl, hB3, s33 _ _ edm6, F33.get 6 rfl, nMM, lMM, cB3, e3, bB3, bW7, fun H34 s34 => ⟨true, rfl, iteT ?_⟩⟩⟩
    have F34 := F33.same s34
    refine ⟨_, rfl, _, rfl, on, dx0, _, on, dx0, _, rfl, F34.get 7 rfl, rfl, F34.get 7 rfl, on, on, A0, A0, v0.n, v0.n, rfl, ⟨dx0, g0, F34.get 7 rfl, F34.get 8 rfl⟩, ⟨dx0, g0, F34.get 7 rfl, F34.get 8 rfl⟩, oA0, oA0, lA00, fun S4 gS4 _ r4 B4 H35 s35 hB4 cB4 gB4 _ => ?_⟩
    intro z3 hz3
    have s36 := same_new (o := .dK []) hz3
    intro fc dxc hfc hdxc nec
    refine finit_of hfc hdxc nec (N := []) upd_same okn fun H36 gc Ac hgc s37 ffc prc => ⟨rfl, ?_⟩
    have s3637 := s36.trans s37
    have ec : Ac = [] := cn_eq prc.cn cn_nil prc.g
    have e4 : B4 = [] := cn_eq cB4 cn_nil fun x => by rw [gB4, gS4]; show get0 A0 x - get0 A0 x = 0; omega
    obtain ⟨dx4, g4, h4a, h4b⟩ := hB4
    refine ⟨r4, dx4, _, rfl, s3637 _ _ h4a, .inl ⟨fc, dxc, _, rfl, ffc.1⟩, r4, _, B4, _, rfl, ⟨dx4, g4, s3637 _ _ h4a, s3637 _ _ h4b⟩, .inl ⟨fc, Ac, 0, rfl, ⟨dxc, gc, ffc⟩, _, rfl, ?_⟩⟩
    have ef : (eqI B4 Ac && decide (V.int (v0.n - v0.n) = V.int 0)) = true := by
      rw [e4, ec, Int.sub_self]
      rfl
    rw [ef]
    exact k _
end
end Lw
/-! ## SlProp -/
set_option Elab.async false
set_option linter.all false
set_option maxRecDepth 100000
set_option maxHeartbeats 4000000
/-! a head's Hook as SlHead's, and the getters of properties -/
namespace Sl
open PySem PySem.Spec PyProof.Rows L2 He
def gtr (x m : Str) (K : PySem.W.Frag) : Addr := match PySem.W.recIn K (ma K (ga K x) m) "property" with
  | some (.ref g :: _) => g
  | _ => 0
def propB (x m : Str) (K : PySem.W.Frag) : Bool := eqO (PySem.W.findIn K (.ref (ga K x)) m) (some (some (.ref (ma K (ga K x) m)))) && (eqO (PySem.W.specialIn K (.ref (ma K (ga K x) m)) "__get__") (some (some (.builtin "property.__get__"))) && (decide (PySem.W.takesIn K (.ref (ma K (ga K x) m)) = some true) &&
  (match PySem.W.recIn K (ma K (ga K x) m) "property" with
    | some (.ref _ :: _) => true
    | _ => false)))
theorem propB_ok {x m : Str} {K : PySem.W.Frag} (h : propB x m K = true) : PropOf K (ga K x) m (ma K (ga K x) m) (gtr x m K) := by
  obtain ⟨a1, h⟩ := ba h
  obtain ⟨a2, h⟩ := ba h
  obtain ⟨a3, a4⟩ := ba h
  refine ⟨eqO_ok a1, eqO_ok a2, of_decide_eq_true a3, ?_⟩
  unfold gtr
  cases e : PySem.W.recIn K (ma K (ga K x) m) "property" with
  | none => rw [e] at a4; cases a4
  | some vs =>
    rw [e] at a4
    cases vs with
    | nil => cases a4
    | cons v r =>
      cases v with
      | ref g => exact ⟨r, rfl⟩
      | _ => cases a4
/-- a function at an address -/
def fnAt (K : PySem.W.Frag) (a : Addr) : FnW := match K.lookup a with
  | some ⟨_, _, .func fd, _⟩ => some (fd.name, fd.qualname, fd.params, fd.body, fd.scope, fd.globals, fd.closure, fd.builtins)
  | _ => none
def okAt (K : PySem.W.Frag) (a : Addr) (d : DefD) : Bool := PySem.W.keepIn K (.ref a) && (match K.lookup a with
  | some ⟨_, _, .func fd, _⟩ => PySem.W.codeIn K fd.code d.qual && (dflB K fd.defaults (d.dvs K) && kwdB K fd.kwdefaults (d.kws K))
  | _ => false)
theorem funD_at {K : PySem.W.Frag} {a : Addr} {d : DefD} (e : fnAt K a = d.val) (c : okAt K a d = true) : ∃ fd, FunD K d.name d.qual d.params d.body d.scope (d.dvs K) (d.kws K) a fd := by
  obtain ⟨kp, c2⟩ := ba c
  unfold fnAt at e
  cases q : K.lookup a with
  | none => rw [q] at c2; cases c2
  | some o =>
    obtain ⟨oc, od, dt, osl⟩ := o
    rw [q] at c2 e
    cases dt with
    | func fd =>
      obtain ⟨m1, m2, m3, m4, m5, m6, m7, m8, m9, m10, m11, m12, m13, m14, m15⟩ := fd
      have e2 : (some (m1, m2, m3, m4, m5, m6, m7, m15) : FnW) = some (d.name, d.qual, d.params, .stmts d.body, d.scope, mainGlobals, [], builtinsNs) := e
      simp only [Option.some.injEq, Prod.mk.injEq] at e2
      obtain ⟨h1, h2, h3, h4, h5, h6, h7, h8⟩ := e2
      subst h1 h2 h3 h4 h5 h6 h7 h8
      obtain ⟨k1, k2⟩ := ba (show (PySem.W.codeIn K m13 d.qual && (dflB K m8 (d.dvs K) && kwdB K m9 (d.kws K))) = true from c2)
      obtain ⟨k3, k4⟩ := ba k2
      exact ⟨_, ⟨oc, od, m8, m9, m10, m11, m12, m13, m14, osl, rfl, q, k1, dflB_ok k3, kwdB_ok k4⟩, kp⟩
    | _ => cases c2
abbrev PrD : Type := (PySem.W.Frag → Addr) × DefD
abbrev AlT : Type := AlS × Bool × List FnW
def obsT (fa : List Fa) (fn : List DefD) (pr : List PrD) (ex : List (PySem.W.Frag → Bool)) (K : PySem.W.Frag) : AlT := (obsS fa fn ex K, pr.all fun q => okAt K (q.1 K) q.2, pr.map fun q => fnAt K (q.1 K))
def obsTG (n : Nat) (fa : List Fa) (fn : List DefD) (pr : List PrD) (ex : List (PySem.W.Frag → Bool)) (g : Addr → Option Obj) : AlT := obsT fa fn pr ex (frG g (asS g n))
def valT (fn : List DefD) (pr : List PrD) : AlT := (valS fn, true, pr.map fun q => q.2.val)
def SaysT (fa : List Fa) (fn : List DefD) (pr : List PrD) (ex : List (PySem.W.Frag → Bool)) (K : PySem.W.Frag) : Prop := obsT fa fn pr ex K = valT fn pr
def hookT (n : Nat) (fa : List Fa) (fn : List DefD) (pr : List PrD) (ex : List (PySem.W.Frag → Bool)) : PySem.W.Hook where
  α := AlT
  obs := fun s => obsTG n fa fn pr ex s.heap.get?
  val := fun _ => valT fn pr
  says := fun _ h => ∃ K : PySem.W.Frag, K.In h ∧ SaysT fa fn pr ex K
  of := fun _ _ e => ⟨_, frG_in, e⟩
  keeps := fun _ _ _ ⟨K, hK, c⟩ k => ⟨K, PySem.W.Frag.In.keeps hK k, c⟩
theorem obsTG_eq {n : Nat} {fa : List Fa} {fn : List DefD} {pr : List PrD} {ex : List (PySem.W.Frag → Bool)} {g : Addr → Option Obj} {s : Shared} (h : ∀ a, g a = s.heap.get? a) : obsTG n fa fn pr ex g = (hookT n fa fn pr ex).obs s := by
  have e : g = s.heap.get? := funext h
  rw [e] <;> rfl
theorem SaysT.s {fa : List Fa} {fn : List DefD} {pr : List PrD} {ex : List (PySem.W.Frag → Bool)} {K : PySem.W.Frag} (c : SaysT fa fn pr ex K) : SaysS fa fn ex K := congrArg (fun z : AlT => z.1) c
theorem SaysT.p {fa : List Fa} {fn : List DefD} {pr : List PrD} {ex : List (PySem.W.Frag → Bool)} {K : PySem.W.Frag} (c : SaysT fa fn pr ex K) (i : Nat) {q : PrD} (h : pr[i]? = some q := by rfl) : ∃ fd, FunD K q.2.name q.2.qual q.2.params q.2.body q.2.scope (q.2.dvs K) (q.2.kws K) (q.1 K) fd := by
  have c1 : (pr.all fun q => okAt K (q.1 K) q.2) = true := congrArg (fun z : AlT => z.2.1) c
  have e : (pr.map fun q => fnAt K (q.1 K)) = pr.map fun q => q.2.val := congrArg (fun z : AlT => z.2.2) c
  have e2 : (pr.map fun q => fnAt K (q.1 K))[i]? = (pr.map fun q => q.2.val)[i]? := by rw [e]
  rw [List.getElem?_map, List.getElem?_map, h] at e2
  exact funD_at (Option.some.inj e2) (List.all_eq_true.mp c1 q (List.mem_of_getElem? h))
end Sl
/-! ## Hk -/
set_option Elab.async false
set_option linter.all false
set_option maxRecDepth 100000
set_option maxHeartbeats 0
namespace Lw
open PySem PySem.Spec PyProof.Rows L2 Sl
def dF (x : Str) (st : Stmt) : He.DefD := ⟨(x, none), x, x, defArgs st, defBody st, defScope st, [], []⟩
def dM (c m q : Str) (st : Stmt) (dfl : List He.Dv) : He.DefD := ⟨(c, some m), m, q, defArgs st, defBody st, defScope st, dfl, []⟩
def fn : List He.DefD := [dF "is_name" s_is_name,
  dF "is_integer" s_is_integer,
  dF "sums" s_sums,
  dF "is_of_lot" s_is_of_lot,
  dF "name_in" s_name_in,
  dF "is_word" s_is_word,
  dF "checked_parts" s_checked_parts,
  dF "_law_source" s_l_source,
  dF "_law_draw" s_l_draw,
  dF "_law_order" s_l_order,
  dF "_law_subset" s_l_subset,
  dF "_law_name" s_l_name,
  dF "_law_names" s_l_names,
  dF "_law_some" s_l_some,
  dF "_law_lots" s_l_lots,
  dF "_law_big" s_l_big,
  dF "_law_less" s_l_less,
  dF "_law_is_right" s_l_is_right,
  dF "law" s_law,
  dM "Form" "__init__" "Form.__init__" s_Form___init__ [.int 0],
  dM "Form" "__eq__" "Form.__eq__" s_Form___eq__ [],
  dM "Form" "__add__" "Form.__add__" s_Form___add__ [],
  dM "Form" "__sub__" "Form.__sub__" s_Form___sub__ [],
  dM "Form" "__mul__" "Form.__mul__" s_Form___mul__ [],
  dM "Form" "parts" "Form.parts" s_Form_parts [],
  dM "Form" "of" "Form.of" s_Form_of []]
def pr : List PrD := [(gtr "Form" "integer", dM "Form" "integer" "Form.integer" s_Form_integer [])]
def fa : List He.Fa := [.glo "is_name", .glo "is_integer", .glo "sums", .glo "is_of_lot", .glo "name_in", .glo "is_word", .glo "checked_parts", .glo "_law_source", .glo "_law_draw", .glo "_law_order", .glo "_law_subset", .glo "_law_name", .glo "_law_names", .glo "_law_some", .glo "_law_lots", .glo "_law_big", .glo "_law_less", .glo "_law_is_right", .glo "law", .glo "Form", .free "isinstance", .free "str", .free "int", .free "bool", .free "list", .free "dict", .free "len", .free "all", .free "range", .free "sorted", .free "sum", .int "MOST_BITS" 1000, .str "LETTERS" "abcdefghijklmnopqrstuvwxyz", .int "MOST_LETTERS" 8, .str "OLD" "old.", .str "NEW" "new.", .str "BETWEEN" " + ", .cls "Form", .mkr "Form", .meth "Form" "__eq__", .meth "Form" "__add__", .meth "Form" "__sub__", .meth "Form" "__mul__", .meth "Form" "parts", .meth "Form" "of", .noat "Form" "_number", .noat "Form" "_parts"]
def tC (K : PySem.W.Frag) : Addr := He.ga K "Form"
def ex1 (K : PySem.W.Frag) : Bool := He.eqO (PySem.W.findIn K (.ref (tC K)) "__class__") (some (some (.builtin "object.__class__"))) && (He.eqO (PySem.W.specialIn K (.builtin "object.__class__") "__get__") (some (some (.builtin "getset_descriptor.__get__"))) && (decide (PySem.W.takesIn K (.builtin "object.__class__") = some true) && decide (PySem.W.mroIn K (tC K) (.type "object") = some true)))
def ex2 (K : PySem.W.Frag) : Bool := decide (PySem.W.kitOne K (.type "dict") (.ref (tC K)) = some false) && decide (PySem.W.kitOne K (.type "int") (.ref (tC K)) = some false)
def ex3 (K : PySem.W.Frag) : Bool := He.eqO (PySem.W.findIn K (.ref (tC K)) "__ne__") (some (some (.builtin "object.__ne__"))) && (decide (PySem.W.subIn K (.ref (tC K)) (.type "object") = some true) && (PySem.W.selfFirst K (tC K) && (PySem.W.notFirst K (tC K) (.type "dict") && PySem.W.notFirst K (tC K) (.type "int"))))
def ex4 (K : PySem.W.Frag) : Bool := He.eqO (PySem.W.findIn K (.ref (tC K)) (dunderR "mul")) (some none) && ((PySem.W.findIn K (.type "int") (PySem.dunder "mul")).isSome && ((PySem.W.findIn K (.type "int") (dunderR "mul")).isSome && decide (PySem.W.subIn K (.type "int") (.ref (tC K)) = some false)))
def ex : List (PySem.W.Frag → Bool) := [ex1, ex2, ex3, ex4, propB "Form" "integer"]
abbrev R : PySem.W.OpenRow := PySem.W.OpenLaw.row PySem.Challenge.rw_statementlots_k06_forms_made
abbrev hk : PySem.W.Hook := hookT 6 fa fn pr ex
def ob (s : PySem.W.SharedT) : AlT := obsTG 6 fa fn pr ex (HandSHeadRun.getT s)
theorem ob_eq (s : PySem.W.SharedT) : ob s = hk.obs s.abs := obsTG_eq (HandSHeadRun.getT_eq s)
abbrev loose : List Str := ["_wall", "MOST_BITS", "shown", "LotError", "BadForm", "BadNumber", "figures_of", "LETTERS", "MOST_LETTERS", "is_name", "is_integer", "sums", "OLD", "NEW", "is_of_lot", "name_in", "is_word", "BETWEEN", "checked_parts", "Form", "_law_source", "_law_draw", "_law_order", "_law_subset", "_law_name", "_law_names", "_law_some", "_law_lots", "_law_big", "_law_less", "_law_is_right"]
end Lw
/-! ## Hr -/
set_option Elab.async false
set_option linter.all false
set_option maxRecDepth 100000
set_option maxHeartbeats 0
namespace Lw
open PySem PySem.Spec PyProof.Rows L2 Sl
theorem run (w : World) : HandSHeadRun.RunEq R (PySem.W.view R.prog [37]) hk ob 5000 loose w := by
  intro os
  kernel_rfl
end Lw
/-! ## Kj -/
set_option Elab.async false
set_option linter.all false
set_option maxRecDepth 100000
set_option maxHeartbeats 4000000
namespace Lw
open PySem PySem.Spec PyProof.Rows L2 Sl
section
variable {P : Program} {w : World} {K : PySem.W.Frag} {base h : Heap} {mg : Str → Option Value}
theorem facts_top (X : K.In h) (G : h.Ns mainGlobals mg) (ct : SaysT fa fn pr ex K) : Top06 P w K mg base (tC K) := by
  have c := ct.s
  have d := c.d
  have g := fun (i : Nat) (x : Str) (e : fa[i]? = some (.glo x)) => He.glo_ok X G (d.fact i e)
  have fr := fun (i : Nat) (x : Str) (e : fa[i]? = some (.free x)) => He.free_ok X G (d.fact i e)
  have g_is_name := g 0 "is_name" rfl
  have g_is_integer := g 1 "is_integer" rfl
  have g_sums := g 2 "sums" rfl
  have g_is_of_lot := g 3 "is_of_lot" rfl
  have g_name_in := g 4 "name_in" rfl
  have g_is_word := g 5 "is_word" rfl
  have g_checked_parts := g 6 "checked_parts" rfl
  have g__law_source := g 7 "_law_source" rfl
  have g__law_draw := g 8 "_law_draw" rfl
  have g__law_order := g 9 "_law_order" rfl
  have g__law_subset := g 10 "_law_subset" rfl
  have g__law_name := g 11 "_law_name" rfl
  have g__law_names := g 12 "_law_names" rfl
  have g__law_some := g 13 "_law_some" rfl
  have g__law_lots := g 14 "_law_lots" rfl
  have g__law_big := g 15 "_law_big" rfl
  have g__law_less := g 16 "_law_less" rfl
  have g__law_is_right := g 17 "_law_is_right" rfl
  have g_law := g 18 "law" rfl
  have g_Form := g 19 "Form" rfl
  have m_isinstance := fr 20 "isinstance" rfl
  have m_str := fr 21 "str" rfl
  have m_int := fr 22 "int" rfl
  have m_bool := fr 23 "bool" rfl
  have m_list := fr 24 "list" rfl
  have m_dict := fr 25 "dict" rfl
  have m_len := fr 26 "len" rfl
  have m_all := fr 27 "all" rfl
  have m_range := fr 28 "range" rfl
  have m_sorted := fr 29 "sorted" rfl
  have m_sum := fr 30 "sum" rfl
  obtain ⟨t_MOST_BITS, k_MOST_BITS⟩ := He.int_ok X G (d.fact 31 (f := .int "MOST_BITS" 1000) rfl)
  obtain ⟨t_LETTERS, k_LETTERS⟩ := He.str_ok X G (d.fact 32 (f := .str "LETTERS" "abcdefghijklmnopqrstuvwxyz") rfl)
  obtain ⟨t_MOST_LETTERS, k_MOST_LETTERS⟩ := He.int_ok X G (d.fact 33 (f := .int "MOST_LETTERS" 8) rfl)
  obtain ⟨t_OLD, k_OLD⟩ := He.str_ok X G (d.fact 34 (f := .str "OLD" "old.") rfl)
  obtain ⟨t_NEW, k_NEW⟩ := He.str_ok X G (d.fact 35 (f := .str "NEW" "new.") rfl)
  obtain ⟨t_BETWEEN, k_BETWEEN⟩ := He.str_ok X G (d.fact 36 (f := .str "BETWEEN" " + ") rfl)
  have cls_Form := He.cls_ok (d.fact 37 (f := .cls "Form") rfl)
  have mkr_Form := He.mkr_ok (d.fact 38 (f := .mkr "Form") rfl)
  have meth_Form___eq__ := He.meth_ok (d.fact 39 (f := .meth "Form" "__eq__") rfl)
  have meth_Form___add__ := He.meth_ok (d.fact 40 (f := .meth "Form" "__add__") rfl)
  have meth_Form___sub__ := He.meth_ok (d.fact 41 (f := .meth "Form" "__sub__") rfl)
  have meth_Form___mul__ := He.meth_ok (d.fact 42 (f := .meth "Form" "__mul__") rfl)
  have meth_Form_parts := He.meth_ok (d.fact 43 (f := .meth "Form" "parts") rfl)
  have meth_Form_of := He.meth_ok (d.fact 44 (f := .meth "Form" "of") rfl)
  have noat_Form__number := He.noat_ok (d.fact 45 (f := .noat "Form" "_number") rfl)
  have noat_Form__parts := He.noat_ok (d.fact 46 (f := .noat "Form" "_parts") rfl)
  obtain ⟨fd_is_name, F_is_name⟩ := d.def_ 0 (d := dF "is_name" s_is_name) rfl
  obtain ⟨fd_is_integer, F_is_integer⟩ := d.def_ 1 (d := dF "is_integer" s_is_integer) rfl
  obtain ⟨fd_sums, F_sums⟩ := d.def_ 2 (d := dF "sums" s_sums) rfl
  obtain ⟨fd_is_of_lot, F_is_of_lot⟩ := d.def_ 3 (d := dF "is_of_lot" s_is_of_lot) rfl
  obtain ⟨fd_name_in, F_name_in⟩ := d.def_ 4 (d := dF "name_in" s_name_in) rfl
  obtain ⟨fd_is_word, F_is_word⟩ := d.def_ 5 (d := dF "is_word" s_is_word) rfl
  obtain ⟨fd_checked_parts, F_checked_parts⟩ := d.def_ 6 (d := dF "checked_parts" s_checked_parts) rfl
  obtain ⟨fd__law_source, F__law_source⟩ := d.def_ 7 (d := dF "_law_source" s_l_source) rfl
  obtain ⟨fd__law_draw, F__law_draw⟩ := d.def_ 8 (d := dF "_law_draw" s_l_draw) rfl
  obtain ⟨fd__law_order, F__law_order⟩ := d.def_ 9 (d := dF "_law_order" s_l_order) rfl
  obtain ⟨fd__law_subset, F__law_subset⟩ := d.def_ 10 (d := dF "_law_subset" s_l_subset) rfl
  obtain ⟨fd__law_name, F__law_name⟩ := d.def_ 11 (d := dF "_law_name" s_l_name) rfl
  obtain ⟨fd__law_names, F__law_names⟩ := d.def_ 12 (d := dF "_law_names" s_l_names) rfl
  obtain ⟨fd__law_some, F__law_some⟩ := d.def_ 13 (d := dF "_law_some" s_l_some) rfl
  obtain ⟨fd__law_lots, F__law_lots⟩ := d.def_ 14 (d := dF "_law_lots" s_l_lots) rfl
  obtain ⟨fd__law_big, F__law_big⟩ := d.def_ 15 (d := dF "_law_big" s_l_big) rfl
  obtain ⟨fd__law_less, F__law_less⟩ := d.def_ 16 (d := dF "_law_less" s_l_less) rfl
  obtain ⟨fd__law_is_right, F__law_is_right⟩ := d.def_ 17 (d := dF "_law_is_right" s_l_is_right) rfl
  obtain ⟨fd_law, F_law⟩ := d.def_ 18 (d := dF "law" s_law) rfl
  obtain ⟨fm_Form___init__, M_Form___init__⟩ := d.def_ 19 (d := dM "Form" "__init__" "Form.__init__" s_Form___init__ [.int 0]) rfl
  obtain ⟨fm_Form___eq__, M_Form___eq__⟩ := d.def_ 20 (d := dM "Form" "__eq__" "Form.__eq__" s_Form___eq__ []) rfl
  obtain ⟨fm_Form___add__, M_Form___add__⟩ := d.def_ 21 (d := dM "Form" "__add__" "Form.__add__" s_Form___add__ []) rfl
  obtain ⟨fm_Form___sub__, M_Form___sub__⟩ := d.def_ 22 (d := dM "Form" "__sub__" "Form.__sub__" s_Form___sub__ []) rfl
  obtain ⟨fm_Form___mul__, M_Form___mul__⟩ := d.def_ 23 (d := dM "Form" "__mul__" "Form.__mul__" s_Form___mul__ []) rfl
  obtain ⟨fm_Form_parts, M_Form_parts⟩ := d.def_ 24 (d := dM "Form" "parts" "Form.parts" s_Form_parts []) rfl
  obtain ⟨fm_Form_of, M_Form_of⟩ := d.def_ 25 (d := dM "Form" "of" "Form.of" s_Form_of []) rfl
  obtain ⟨fp_Form_integer, P_Form_integer⟩ := ct.p 0 (q := (gtr "Form" "integer", dM "Form" "integer" "Form.integer" s_Form_integer [])) rfl
  have c_is_name : Cal P w K mg base 1 "is_name" [] (sp_isname K) := ⟨_, fd_is_name, ["thing"], [], g_is_name, F_is_name.kp, ok_is_name F_is_name m_isinstance m_str m_len m_all k_LETTERS k_MOST_LETTERS, F_is_name.bindsN (fun _ _ _ _ _ _ us hl => match us, hl with | [_], _ => rfl), .nil⟩
  have c_is_integer : Cal P w K mg base 1 "is_integer" [] (sp_isint K) := ⟨_, fd_is_integer, ["thing"], [], g_is_integer, F_is_integer.kp, ok_is_integer F_is_integer m_isinstance m_int m_bool, F_is_integer.bindsN (fun _ _ _ _ _ _ us hl => match us, hl with | [_], _ => rfl), .nil⟩
  have c_sums : Cal P w K mg base 1 "sums" [] (sp_sums) := ⟨_, fd_sums, ["one", "other"], [], g_sums, F_sums.kp, ok_sums F_sums, F_sums.bindsN (fun _ _ _ _ _ _ us hl => match us, hl with | [_, _], _ => rfl), .nil⟩
  have c_is_of_lot : Cal P w K mg base 1 "is_of_lot" [] (sp_isoflot) := ⟨_, fd_is_of_lot, ["text"], [], g_is_of_lot, F_is_of_lot.kp, ok_is_of_lot F_is_of_lot k_OLD k_NEW, F_is_of_lot.bindsN (fun _ _ _ _ _ _ us hl => match us, hl with | [_], _ => rfl), .nil⟩
  have c_name_in : Cal P w K mg base 2 "name_in" [] (sp_namein) := ⟨_, fd_name_in, ["word"], [], g_name_in, F_name_in.kp, ok_name_in F_name_in c_is_of_lot m_len k_OLD, F_name_in.bindsN (fun _ _ _ _ _ _ us hl => match us, hl with | [_], _ => rfl), .nil⟩
  have c_is_word : Cal P w K mg base 3 "is_word" [] (sp_isword) := ⟨_, fd_is_word, ["thing"], [], g_is_word, F_is_word.kp, ok_is_word F_is_word c_name_in c_is_name m_isinstance m_str, F_is_word.bindsN (fun _ _ _ _ _ _ us hl => match us, hl with | [_], _ => rfl), .nil⟩
  have c_checked_parts : Cal P w K mg base 4 "checked_parts" [] (sp_cparts) := ⟨_, fd_checked_parts, ["told"], [], g_checked_parts, F_checked_parts.kp, ok_cparts F_checked_parts c_is_word c_is_integer m_isinstance m_dict m_sorted, F_checked_parts.bindsN (fun _ _ _ _ _ _ us hl => match us, hl with | [_], _ => rfl), .nil⟩
  have c__law_source : Cal P w K mg base 1 "_law_source" [] (sp_source K) := ⟨_, fd__law_source, ["_law_script"], [], g__law_source, F__law_source.kp, ok_source F__law_source m_int, F__law_source.bindsN (fun _ _ _ _ _ _ us hl => match us, hl with | [_], _ => rfl), .nil⟩
  have c__law_draw : Cal P w K mg base 1 "_law_draw" [] (sp_draw) := ⟨_, fd__law_draw, ["_law_source_here", "_law_many"], [], g__law_draw, F__law_draw.kp, ok_draw F__law_draw m_int, F__law_draw.bindsN (fun _ _ _ _ _ _ us hl => match us, hl with | [_, _], _ => rfl), .nil⟩
  have c__law_order : Cal P w K mg base 2 "_law_order" [] (sp_order K) := ⟨_, fd__law_order, ["_law_source_here", "_law_many"], [], g__law_order, F__law_order.kp, ok_order F__law_order c__law_draw m_range m_list m_len, F__law_order.bindsN (fun _ _ _ _ _ _ us hl => match us, hl with | [_, _], _ => rfl), .nil⟩
  have c__law_subset : Cal P w K mg base 2 "_law_subset" [] (sp_subset K) := ⟨_, fd__law_subset, ["_law_source_here", "_law_row"], [], g__law_subset, F__law_subset.kp, ok_subset F__law_subset c__law_draw, F__law_subset.bindsN (fun _ _ _ _ _ _ us hl => match us, hl with | [_, _], _ => rfl), .nil⟩
  have c__law_name : Cal P w K mg base 2 "_law_name" [] (sp_name K) := ⟨_, fd__law_name, ["_law_source_here", "_law_taken"], [], g__law_name, F__law_name.kp, ok_name F__law_name c__law_draw m_range, F__law_name.bindsN (fun _ _ _ _ _ _ us hl => match us, hl with | [_, _], _ => rfl), .nil⟩
  have c__law_names : Cal P w K mg base 3 "_law_names" [] (sp_names K) := ⟨_, fd__law_names, ["_law_source_here", "_law_many"], [], g__law_names, F__law_names.kp, ok_names F__law_names c__law_name m_range, F__law_names.bindsN (fun _ _ _ _ _ _ us hl => match us, hl with | [_, _], _ => rfl), .nil⟩
  have c__law_some : Cal P w K mg base 3 "_law_some" [] (sp_some K) := ⟨_, fd__law_some, ["_law_source_here", "_law_things"], [], g__law_some, F__law_some.kp, ok_some F__law_some c__law_draw c__law_order m_len, F__law_some.bindsN (fun _ _ _ _ _ _ us hl => match us, hl with | [_, _], _ => rfl), .nil⟩
  have c__law_lots : Cal P w K mg base 1 "_law_lots" [] (sp_lots K) := ⟨_, fd__law_lots, ["_law_kinds"], [], g__law_lots, F__law_lots.kp, ok_lots F__law_lots, F__law_lots.bindsN (fun _ _ _ _ _ _ us hl => match us, hl with | [_], _ => rfl), .nil⟩
  have c__law_big : Cal P w K mg base 2 "_law_big" [] (sp_big) := ⟨_, fd__law_big, ["_law_source_here"], [], g__law_big, F__law_big.kp, ok_big F__law_big c__law_draw, F__law_big.bindsN (fun _ _ _ _ _ _ us hl => match us, hl with | [_], _ => rfl), .nil⟩
  have c__law_less : Cal P w K mg base 1 "_law_less" [] (sp_less) := ⟨_, fd__law_less, ["_law_parts"], [], g__law_less, F__law_less.kp, ok_less F__law_less m_dict m_sorted, F__law_less.bindsN (fun _ _ _ _ _ _ us hl => match us, hl with | [_], _ => rfl), .nil⟩
  obtain ⟨a1, a⟩ := He.ba (show (_ && _) = true from c.x 0 (e := ex1) rfl)
  obtain ⟨a2, a⟩ := He.ba a
  obtain ⟨a3, a4⟩ := He.ba a
  obtain ⟨k1, k2⟩ := He.ba (show (_ && _) = true from c.x 1 (e := ex2) rfl)
  obtain ⟨o1, o⟩ := He.ba (show (_ && _) = true from c.x 2 (e := ex3) rfl)
  obtain ⟨o2, o⟩ := He.ba o
  obtain ⟨o3, o⟩ := He.ba o
  obtain ⟨o4, o5⟩ := He.ba o
  obtain ⟨i1, i⟩ := He.ba (show (_ && _) = true from c.x 3 (e := ex4) rfl)
  obtain ⟨i2, i⟩ := He.ba i
  obtain ⟨i3, i4⟩ := He.ba i
  have T : FormC K (tC K) := ⟨cls_Form, noat_Form__parts, noat_Form__number, He.eqO_ok a1, He.eqO_ok a2, of_decide_eq_true a3, of_decide_eq_true a4⟩
  have OI : FnOk P w K mg base CX0 5 _ fm_Form___init__ ["self", "parts", "number"] (sp_finit K (tC K)) := ok_finit M_Form___init__ T c_checked_parts c_is_integer
  have b3 : Binds K fm_Form___init__ ["self", "parts", "number"] [] := by
    obtain ⟨ds, hv, hb⟩ := M_Form___init__.binds1 (ps := ["self", "parts", "number"]) 3 1 (List.cons_ne_nil _ _) rfl (fun _ _ _ _ _ _ _ us its h1 h2 => match us, h1, its, h2 with | [_, _, _], _, [_], _ => ⟨_, rfl, rfl⟩)
    cases hv
    exact hb
  have b2 : ∃ t : Tok, Binds K fm_Form___init__ ["self", "parts", "number"] [.int 0 t] := by
    obtain ⟨ds, hv, hb⟩ := M_Form___init__.binds1 (ps := ["self", "parts", "number"]) 2 0 (List.cons_ne_nil _ _) rfl (fun _ _ _ _ _ _ _ us its h1 h2 => match us, h1, its, h2 with | [_, _], _, [_], _ => ⟨_, rfl, rfl⟩)
    obtain ⟨u, rfl, ru⟩ := vals1 hv
    obtain ⟨t, rfl⟩ := (show ∃ t, u = Value.int 0 t from ru)
    exact ⟨t, hb⟩
  have FF : FormF P w K mg base (tC K) := ⟨g_Form, T, _, fm_Form___init__, mkr_Form, OI, b3, b2⟩
  have o_eq : OwnF P w K mg base (He.ga K "Form") 1 "__eq__" (sp_feq K (tC K)) := ⟨⟨_, fm_Form___eq__, ["self", "other"], meth_Form___eq__.at_, meth_Form___eq__.fn, ok_feq M_Form___eq__ T m_isinstance g_Form, M_Form___eq__.bindsN (fun _ _ _ _ _ _ us hl => match us, hl with | [_, _], _ => rfl)⟩⟩
  have o_add : OwnF P w K mg base (He.ga K "Form") 7 "__add__" (sp_fadd (tC K)) := ⟨⟨_, fm_Form___add__, ["self", "other"], meth_Form___add__.at_, meth_Form___add__.fn, ok_fadd M_Form___add__ FF c_sums m_isinstance, M_Form___add__.bindsN (fun _ _ _ _ _ _ us hl => match us, hl with | [_, _], _ => rfl)⟩⟩
  have o_sub : OwnF P w K mg base (He.ga K "Form") 7 "__sub__" (sp_fsub (tC K)) := ⟨⟨_, fm_Form___sub__, ["self", "other"], meth_Form___sub__.at_, meth_Form___sub__.fn, ok_fsub M_Form___sub__ FF c_sums m_isinstance, M_Form___sub__.bindsN (fun _ _ _ _ _ _ us hl => match us, hl with | [_, _], _ => rfl)⟩⟩
  have o_mul : OwnF P w K mg base (He.ga K "Form") 7 "__mul__" (sp_fmul (tC K)) := ⟨⟨_, fm_Form___mul__, ["self", "other"], meth_Form___mul__.at_, meth_Form___mul__.fn, ok_fmul M_Form___mul__ FF c_is_integer, M_Form___mul__.bindsN (fun _ _ _ _ _ _ us hl => match us, hl with | [_, _], _ => rfl)⟩⟩
  have p_integer : CalP P w K mg base (He.ga K "Form") 1 "integer" (sp_fint (tC K)) := ⟨⟨_, _, fp_Form_integer, ["self"], propB_ok (c.x 4 (e := propB "Form" "integer") rfl), ok_fint P_Form_integer T, P_Form_integer.bindsN (fun _ _ _ _ _ _ us hl => match us, hl with | [_], _ => rfl)⟩⟩
  have m_Form_parts : CalM P w K mg base (He.ga K "Form") 1 "parts" (sp_fparts (tC K)) := ⟨⟨_, fm_Form_parts, ["self"], meth_Form_parts, ok_fparts M_Form_parts T m_dict, M_Form_parts.bindsN (fun _ _ _ _ _ _ us hl => match us, hl with | [_], _ => rfl)⟩⟩
  have m_Form_of : CalM P w K mg base (He.ga K "Form") 1 "of" (sp_fof (tC K)) := ⟨⟨_, fm_Form_of, ["self", "worths"], meth_Form_of, ok_fof M_Form_of T m_sum, M_Form_of.bindsN (fun _ _ _ _ _ _ us hl => match us, hl with | [_, _], _ => rfl)⟩⟩
  have Mm : Meths P w K mg base (tC K) := ⟨m_Form_parts, m_Form_of, p_integer⟩
  have c__law_is_right : Cal P w K mg base 3 "_law_is_right" [] (sp_isright (tC K)) := ⟨_, fd__law_is_right, ["_law_form", "_law_parts", "_law_number", "_law_worths"], [], g__law_is_right, F__law_is_right.kp, ok_is_right F__law_is_right c__law_less Mm cls_Form m_list m_sum, F__law_is_right.bindsN (fun _ _ _ _ _ _ us hl => match us, hl with | [_, _, _, _], _ => rfl), .nil⟩
  have iop : IntOp K (tC K) "mul" := ⟨He.eqO_ok i1, Option.isSome_iff_exists.mp i2, Option.isSome_iff_exists.mp i3, of_decide_eq_true i4⟩
  exact ⟨c__law_source, c__law_draw, c__law_names, c__law_subset, c__law_some, c__law_lots, c__law_big, c__law_less, c__law_is_right, FF, Mm, o_eq, o_add, o_sub, o_mul, iop, He.eqO_ok o1, of_decide_eq_true o2, o3, o4, o5, of_decide_eq_true k1, of_decide_eq_true k2, m_dict, m_list, m_range⟩
end
end Lw
/-! ## Kz -/
set_option Elab.async false
set_option linter.all false
set_option maxRecDepth 100000
set_option maxHeartbeats 0
open PySem PySem.W PySem.Calls PyProof.Rows
theorem PySem.Challenge.cw_statementlots_k06_forms_made_holds : PySem.Challenge.rw_statementlots_k06_forms_made.Holds := by
  w_on; o_law
  refine HandSHeadRun.head_any (r := OpenLaw.row PySem.Challenge.rw_statementlots_k06_forms_made) (q := view (OpenLaw.row PySem.Challenge.rw_statementlots_k06_forms_made).prog [37]) (H := Lw.hk) (ob := Lw.ob) (M := 5000) (loose := Lw.loose) (d := HandSHeadRun.topDef (OpenLaw.row PySem.Challenge.rw_statementlots_k06_forms_made).prog 37) (kwd := []) Lw.ob_eq
    (by kernel_rfl) (fun s => by kernel_rfl) Lw.run (by kernel_rfl) (by kernel_rfl) (by kernel_rfl) (by rfl) (by first | assumption | decide +kernel) (by decide +kernel) ⟨rfl, rfl, rfl, rfl, rfl, by decide +kernel⟩ ?hw ?hc
  case hw => w_witness2
  case hc =>
    refine L2.walk_ofE (l := PySem.Challenge.rw_statementlots_k06_forms_made) (n := 63) (k := 8) (x := "_law_script") (CX := L2.CX0) rfl (by decide) (by kernel_rfl) ⟨rfl, by decide, by decide⟩ ?F (fun _ _ _ _ z => z)
    intro w mg fa h Y G hmg0
    obtain ⟨K, KX, ct⟩ := Y
    have c := ct.s
    have hmg : mg ("law" : PySem.Str) = some (.ref fa) := by
      have e : (HandSHeadRun.topDef (OpenLaw.row PySem.Challenge.rw_statementlots_k06_forms_made).prog 37).name = ("law" : PySem.Str) := by kernel_rfl
      rw [← e]
      exact hmg0
    obtain ⟨fd, F⟩ := c.d.def_ 18 (d := Lw.dF "law" Lw.s_law) rfl
    have e := hmg.symm.trans (He.glo_ok KX G (c.d.fact 18 (f := .glo "law") rfl))
    cases e
    have b := L2.FunD.bindsA (ps := ["_law_script"]) F fun _ _ _ _ _ _ us hl => match us, hl with | [_], _ => rfl
    exact ⟨K, fd, Lw.sp_law K, KX, fun s v => b s [v] rfl, fun H a ns hl _ hS => ⟨a, ns, rfl, hS, hl, fun _ => rfl⟩, fun base _ _ => Lw.ok_law F (Lw.facts_top KX G ct)⟩
#print axioms PySem.Challenge.cw_statementlots_k06_forms_made_holds
