import PyProof.Rows.All
import Wide.All
import OpenK.AllK
import Wide.FinOn
import HandS.ForMost
import HandS.ForExc
import HandS.Wide
import HandS.Defaults
import HandS.IsInst
import HandS.Conv
import PySem.Challenge.RW_statementlots_k10_bad_triggers
import HandS.ExcInit
import HandS.ClsMeth
import HandS.ExcIs
import HandS.Head0
import HandS.Head1
import HandS.Head2
import HandS.HeadEnd
import HandS.HeadHook1
import HandS.HeadHook2
import HandS.Property
import HandS.Style
import HandS.Steps
import HandS.SetTxt0
import HandS.TupSets
import HandS.SetFor
import HandS.More
import HandS.OwnEq
import PyProof.InstNe
import OpenK.KMeth
import HandS.Walk
import HandS.Flow
import HandS.SetKeys
import HandS.Exc
import HandS.DeepEq
import HandS.WideBits
import PyProof.FactsAll.bool_3
import HandS.Text
import HandS.List
import HandS.Words
import KE.GoesEnum
import HandS.ExcOwn
import HandS.Dict
import PyProof.DictUpdate
import PyProof.MeetsSeq2
import HandS.Iter
import HandS.Sort
import PyProof.SumWalkG
import HandS.DictComp
import KE.KEqDict
import PyProof.Rows.SortStr
import PyProof.Rows.StrMeet
import HandS.ListItems
import HandS.SortRule
import HandS.ExcField
/-! ## SlBase -/
set_option Elab.async false
set_option linter.all false
set_option maxRecDepth 100000
set_option maxHeartbeats 4000000
namespace Sl
open PySem PySem.Spec PyProof.Rows L2

/-- a def of the top that lets no exception out: what it promises, at most k levels deep -/
structure Cal (P : Program) (w : World) (K : PySem.W.Frag) (mg : Str → Option Value) (base : Heap) (k : Nat) (x : Str) (dvs : List V) (sp : Sp) : Prop where
  ex : ∃ (f : Addr) (fd : FuncData) (ps : List Str) (ds : List Value), mg x = some (.ref f) ∧ PySem.W.keepIn K (.ref f) = true ∧ FnOk P w K mg base CX0 k f fd ps sp ∧ Binds K fd ps ds ∧ Vals dvs ds
theorem pe_cal {X : Cx} {x : Str} {e : Expr} {es : List Expr} {p pos : Pos} {k : Nat} {dvs : List V} {sp : Sp} {t : TA} (h : Cal X.prog X.w X.K X.mg X.base k x dvs sp) (hr : Room k X.A) (ha : PA X (e :: es) t) (hg : Gl X x := by rfl)
    (hdb : (x == ("__debug__" : Str)) = false := by decide) (he : starEach (e :: es) X.env = (false, eval e X.env) :: starEach es X.env := by rfl) (hpl : (backTo pos (starEach es X.env)).any (·.1) = false := by rfl) :
    PE X (.Call (.Name x p) (e :: es) [] pos) (tCall sp dvs E0 t) := by
  obtain ⟨f, fd, ps, ds, hm, hk, F, hb, hd⟩ := h.ex
  exact pe_call F hr hg hm hk hb hd pass0 ha hdb he hpl

theorem atI_int {α : Type} {xs : List α} {j : Int} {v : α} (h0 : 0 ≤ j) (h : xs[j.toNat]? = some v) : atI xs j = some v := by
  have e := atI_nat h
  rwa [Int.toNat_of_nonneg h0] at e
/-! ### the source of draws -/
def SrcAt (H : Hp) (p : Addr) (n : Nat) : Prop := ∃ g s c : Int, H p = some (.lst [.int g, .int s, .int c]) ∧ 0 ≤ s ∧ s < 2147483647 ∧ 0 ≤ c ∧ c ≤ n
/-- all but p stands -/
def Keep (p : Addr) (H H' : Hp) : Prop := ∀ b o, b ≠ p → H b = some o → H' b = some o
theorem Keep.refl (p : Addr) (H : Hp) : Keep p H H := fun _ _ _ h => h
theorem Keep.trans {p : Addr} {H H1 H2 : Hp} (a : Keep p H H1) (b : Keep p H1 H2) : Keep p H H2 := fun c o n h => b c o n (a c o n h)
theorem Keep.upd {p : Addr} {H : Hp} {o : HO} : Keep p H (upd H p o) := fun b u n h => by rw [upd_ne n]; exact h
theorem Keep.new {p q : Addr} {H : Hp} {o : HO} (hq : H q = none) : Keep p H (L2.upd H q o) := fun b u n h => by rw [upd_ne (ne_of_none h hq)]; exact h
theorem Keep.seq {K : PySem.W.Frag} {p a : Addr} {H H' : Hp} {xs : List V} (k : Keep p H H') (n : a ≠ p) (h : SqL K H a xs) : SqL K H' a xs := by
  rcases h with (h | ⟨o, h⟩) | h
  · exact .inl (.inl (k _ _ n h))
  · exact .inl (.inr ⟨o, k _ _ n h⟩)
  · exact .inr h
theorem SrcAt.mono {H : Hp} {p : Addr} {n m : Nat} (h : SrcAt H p n) (l : n ≤ m) : SrcAt H p m := by
  obtain ⟨g, s, c, e, a1, a2, a3, a4⟩ := h
  exact ⟨g, s, c, e, a1, a2, a3, by omega⟩
theorem SrcAt.there {H : Hp} {p : Addr} {n : Nat} (h : SrcAt H p n) : ∃ o, H p = some o := let ⟨_, _, _, e, _⟩ := h; ⟨_, e⟩
theorem SrcAt.new {H : Hp} {p q : Addr} {n : Nat} {o : HO} (h : SrcAt H p n) (hq : H q = none) : SrcAt (L2.upd H q o) p n := by
  obtain ⟨g, s, c, e, a⟩ := h
  exact ⟨g, s, c, by rw [upd_ne (ne_of_none e hq)]; exact e, a⟩
theorem Keep.free {p q : Addr} {H H' : Hp} (k : Keep p H H') (hp : ∃ o, H' p = some o) (hq : H' q = none) : H q = none := by
  cases e : H q with
  | none => rfl
  | some u =>
    by_cases z : q = p
    · subst z
      obtain ⟨o, ho⟩ := hp
      rw [hq] at ho
      cases ho
    · rw [k q u z e] at hq
      cases hq

def sp_draw : Sp := fun vs H Q _ => ∃ (p : Addr) (m : Int) (n : Nat), vs = [.ref p, .int m] ∧ SrcAt H p n ∧ n ≤ 100000 ∧ 0 < m ∧ m < 2 ^ 200 ∧
  ∀ (k : Int) (H' : Hp), 0 ≤ k → k < m → SrcAt H' p (n + 1) → Keep p H H' → Q (.int k) H'
def sp_source (K : PySem.W.Frag) : Sp := fun vs H Q _ => ∃ (a : Addr) (ns : List Int), vs = [.ref a] ∧ SqL K H a (ns.map V.int) ∧ ns.length ≤ 63 ∧
  ∀ (p : Addr) (H' : Hp), H p = none → SrcAt H' p 0 → (∀ b o, H b = some o → H' b = some o) → Q (.ref p) H'
end Sl
/-! ## HdText -/
set_option Elab.async false
set_option linter.all false
set_option maxRecDepth 100000
set_option maxHeartbeats 4000000
namespace Lw
open PySem PySem.Spec PyProof.Rows L2 Sl
def top (i : Nat) : Stmt := PySem.Challenge.pw_statementlots_k10_bad_triggers.main.body.getD i (.Pass ⟨0, 0, 0, 0⟩)
abbrev s__wall : Stmt := top 0
/-- slots: 0 k -/
theorem sc__wall : FnScope ["k"] ["k"] (defScope s__wall) := ⟨rfl, rfl, rfl, by decide +kernel, rfl, by decide +kernel, by decide +kernel⟩
abbrev s_shown : Stmt := top 3
/-- slots: 0 field -/
theorem sc_shown : FnScope ["field"] ["field"] (defScope s_shown) := ⟨rfl, rfl, rfl, by decide +kernel, rfl, by decide +kernel, by decide +kernel⟩
abbrev s_LotError___init__ : Stmt := inClass (top 4) 0
/-- slots: 0 self 1 field -/
theorem sc_LotError___init__ : FnScope ["self", "field"] ["self", "field"] (defScope s_LotError___init__) := ⟨rfl, rfl, rfl, by decide +kernel, rfl, by decide +kernel, by decide +kernel⟩
abbrev s_BadStatement___init__ : Stmt := inClass (top 5) 0
/-- slots: 0 self 1 kind -/
theorem sc_BadStatement___init__ : FnScope ["self", "kind"] ["self", "kind"] (defScope s_BadStatement___init__) := ⟨rfl, rfl, rfl, by decide +kernel, rfl, by decide +kernel, by decide +kernel⟩
abbrev s_BadForm___init__ : Stmt := inClass (top 6) 0
/-- slots: 0 self 1 word -/
theorem sc_BadForm___init__ : FnScope ["self", "word"] ["self", "word"] (defScope s_BadForm___init__) := ⟨rfl, rfl, rfl, by decide +kernel, rfl, by decide +kernel, by decide +kernel⟩
abbrev s_BadNumber___init__ : Stmt := inClass (top 7) 0
/-- slots: 0 self 1 number -/
theorem sc_BadNumber___init__ : FnScope ["self", "number"] ["self", "number"] (defScope s_BadNumber___init__) := ⟨rfl, rfl, rfl, by decide +kernel, rfl, by decide +kernel, by decide +kernel⟩
abbrev s_BadTrigger___init__ : Stmt := inClass (top 8) 0
/-- slots: 0 self 1 place -/
theorem sc_BadTrigger___init__ : FnScope ["self", "place"] ["self", "place"] (defScope s_BadTrigger___init__) := ⟨rfl, rfl, rfl, by decide +kernel, rfl, by decide +kernel, by decide +kernel⟩
abbrev s_Overlap___init__ : Stmt := inClass (top 9) 0
/-- slots: 0 self 1 kind -/
theorem sc_Overlap___init__ : FnScope ["self", "kind"] ["self", "kind"] (defScope s_Overlap___init__) := ⟨rfl, rfl, rfl, by decide +kernel, rfl, by decide +kernel, by decide +kernel⟩
abbrev s_figures_of : Stmt := top 11
/-- slots: 0 number 1 rest 2 parts 3 low -/
theorem sc_figures_of : FnScope ["number", "rest", "parts", "low"] ["number"] (defScope s_figures_of) := ⟨rfl, rfl, rfl, by decide +kernel, rfl, by decide +kernel, by decide +kernel⟩
abbrev s_is_name : Stmt := top 15
/-- slots: 0 thing 1 letter -/
theorem sc_is_name : FnScope ["thing", "letter"] ["thing"] (defScope s_is_name) := ⟨rfl, rfl, rfl, by decide +kernel, rfl, by decide +kernel, by decide +kernel⟩
abbrev s_is_integer : Stmt := top 16
/-- slots: 0 thing -/
theorem sc_is_integer : FnScope ["thing"] ["thing"] (defScope s_is_integer) := ⟨rfl, rfl, rfl, by decide +kernel, rfl, by decide +kernel, by decide +kernel⟩
abbrev s_is_list : Stmt := top 17
/-- slots: 0 thing -/
theorem sc_is_list : FnScope ["thing"] ["thing"] (defScope s_is_list) := ⟨rfl, rfl, rfl, by decide +kernel, rfl, by decide +kernel, by decide +kernel⟩
abbrev s_is_names : Stmt := top 18
/-- slots: 0 thing 1 least 2 most 3 name -/
theorem sc_is_names : FnScope ["thing", "least", "most", "name"] ["thing", "least", "most"] (defScope s_is_names) := ⟨rfl, rfl, rfl, by decide +kernel, rfl, by decide +kernel, by decide +kernel⟩
abbrev s_are_different : Stmt := top 19
/-- slots: 0 texts -/
theorem sc_are_different : FnScope ["texts"] ["texts"] (defScope s_are_different) := ⟨rfl, rfl, rfl, by decide +kernel, rfl, by decide +kernel, by decide +kernel⟩
abbrev s_pairs_of : Stmt := top 20
/-- slots: 0 thing -/
theorem sc_pairs_of : FnScope ["thing"] ["thing"] (defScope s_pairs_of) := ⟨rfl, rfl, rfl, by decide +kernel, rfl, by decide +kernel, by decide +kernel⟩
abbrev s_sums : Stmt := top 21
/-- slots: 0 one 1 other 2 name -/
theorem sc_sums : FnScope ["one", "other", "name"] ["one", "other"] (defScope s_sums) := ⟨rfl, rfl, rfl, by decide +kernel, rfl, by decide +kernel, by decide +kernel⟩
abbrev s_is_of_lot : Stmt := top 25
/-- slots: 0 text -/
theorem sc_is_of_lot : FnScope ["text"] ["text"] (defScope s_is_of_lot) := ⟨rfl, rfl, rfl, by decide +kernel, rfl, by decide +kernel, by decide +kernel⟩
abbrev s_name_in : Stmt := top 26
/-- slots: 0 word -/
theorem sc_name_in : FnScope ["word"] ["word"] (defScope s_name_in) := ⟨rfl, rfl, rfl, by decide +kernel, rfl, by decide +kernel, by decide +kernel⟩
abbrev s_is_word : Stmt := top 27
/-- slots: 0 thing -/
theorem sc_is_word : FnScope ["thing"] ["thing"] (defScope s_is_word) := ⟨rfl, rfl, rfl, by decide +kernel, rfl, by decide +kernel, by decide +kernel⟩
abbrev s_checked_parts : Stmt := top 30
/-- slots: 0 told 1 word 2 times -/
theorem sc_checked_parts : FnScope ["told", "word", "times"] ["told"] (defScope s_checked_parts) := ⟨rfl, rfl, rfl, by decide +kernel, rfl, by decide +kernel, by decide +kernel⟩
abbrev s_Form___init__ : Stmt := inClass (top 31) 0
/-- slots: 0 self 1 parts 2 number -/
theorem sc_Form___init__ : FnScope ["self", "parts", "number"] ["self", "parts", "number"] (defScope s_Form___init__) := ⟨rfl, rfl, rfl, by decide +kernel, rfl, by decide +kernel, by decide +kernel⟩
abbrev s_Form___eq__ : Stmt := inClass (top 31) 1
/-- slots: 0 self 1 other -/
theorem sc_Form___eq__ : FnScope ["self", "other"] ["self", "other"] (defScope s_Form___eq__) := ⟨rfl, rfl, rfl, by decide +kernel, rfl, by decide +kernel, by decide +kernel⟩
abbrev s_Form___add__ : Stmt := inClass (top 31) 2
/-- slots: 0 self 1 other -/
theorem sc_Form___add__ : FnScope ["self", "other"] ["self", "other"] (defScope s_Form___add__) := ⟨rfl, rfl, rfl, by decide +kernel, rfl, by decide +kernel, by decide +kernel⟩
abbrev s_Form___sub__ : Stmt := inClass (top 31) 3
/-- slots: 0 self 1 other 2 less 3 word 4 times -/
theorem sc_Form___sub__ : FnScope ["self", "other", "less", "word", "times"] ["self", "other"] (defScope s_Form___sub__) := ⟨rfl, rfl, rfl, by decide +kernel, rfl, by decide +kernel, by decide +kernel⟩
abbrev s_Form___mul__ : Stmt := inClass (top 31) 4
/-- slots: 0 self 1 other 2 word 3 times -/
theorem sc_Form___mul__ : FnScope ["self", "other", "word", "times"] ["self", "other"] (defScope s_Form___mul__) := ⟨rfl, rfl, rfl, by decide +kernel, rfl, by decide +kernel, by decide +kernel⟩
abbrev s_Form_integer : Stmt := inClass (top 31) 5
/-- slots: 0 self -/
theorem sc_Form_integer : FnScope ["self"] ["self"] (defScope s_Form_integer) := ⟨rfl, rfl, rfl, by decide +kernel, rfl, by decide +kernel, by decide +kernel⟩
abbrev s_Form_parts : Stmt := inClass (top 31) 6
/-- slots: 0 self -/
theorem sc_Form_parts : FnScope ["self"] ["self"] (defScope s_Form_parts) := ⟨rfl, rfl, rfl, by decide +kernel, rfl, by decide +kernel, by decide +kernel⟩
abbrev s_Form_of : Stmt := inClass (top 31) 7
/-- slots: 0 self 1 worths 2 word 3 times -/
theorem sc_Form_of : FnScope ["self", "worths", "word", "times"] ["self", "worths"] (defScope s_Form_of) := ⟨rfl, rfl, rfl, by decide +kernel, rfl, by decide +kernel, by decide +kernel⟩
abbrev s_Form_text : Stmt := inClass (top 31) 8
/-- slots: 0 self 1 texts 2 word 3 times -/
theorem sc_Form_text : FnScope ["self", "texts", "word", "times"] ["self"] (defScope s_Form_text) := ⟨rfl, rfl, rfl, by decide +kernel, rfl, by decide +kernel, by decide +kernel⟩
abbrev s_Form_parse : Stmt := inClass (top 31) 9
/-- slots: 0 cls 1 text -/
theorem sc_Form_parse : FnScope ["cls", "text"] ["cls", "text"] (defScope s_Form_parse) := ⟨rfl, rfl, rfl, by decide +kernel, rfl, by decide +kernel, by decide +kernel⟩
abbrev s_is_turn : Stmt := top 39
/-- slots: 0 thing 1 kind -/
theorem sc_is_turn : FnScope ["thing", "kind"] ["thing"] (defScope s_is_turn) := ⟨rfl, rfl, rfl, by decide +kernel, rfl, by decide +kernel, by decide +kernel⟩
abbrev s_is_brought : Stmt := top 40
/-- slots: 0 thing -/
theorem sc_is_brought : FnScope ["thing"] ["thing"] (defScope s_is_brought) := ⟨rfl, rfl, rfl, by decide +kernel, rfl, by decide +kernel, by decide +kernel⟩
abbrev s_checked_turns : Stmt := top 41
/-- slots: 0 told 1 pairs 2 kind 3 kinds -/
theorem sc_checked_turns : FnScope ["told", "pairs", "kind", "kinds"] ["told"] (defScope s_checked_turns) := ⟨rfl, rfl, rfl, by decide +kernel, rfl, by decide +kernel, by decide +kernel⟩
abbrev s_checked_brings : Stmt := top 42
/-- slots: 0 told 1 pairs 2 kind 3 number -/
theorem sc_checked_brings : FnScope ["told", "pairs", "kind", "number"] ["told"] (defScope s_checked_brings) := ⟨rfl, rfl, rfl, by decide +kernel, rfl, by decide +kernel, by decide +kernel⟩
abbrev s_Statement___init__ : Stmt := inClass (top 43) 0
/-- slots: 0 self 1 turns 2 brings -/
theorem sc_Statement___init__ : FnScope ["self", "turns", "brings"] ["self", "turns", "brings"] (defScope s_Statement___init__) := ⟨rfl, rfl, rfl, by decide +kernel, rfl, by decide +kernel, by decide +kernel⟩
abbrev s_Statement___eq__ : Stmt := inClass (top 43) 1
/-- slots: 0 self 1 other -/
theorem sc_Statement___eq__ : FnScope ["self", "other"] ["self", "other"] (defScope s_Statement___eq__) := ⟨rfl, rfl, rfl, by decide +kernel, rfl, by decide +kernel, by decide +kernel⟩
abbrev s_Statement___or__ : Stmt := inClass (top 43) 2
/-- slots: 0 self 1 other 2 brings 3 kind -/
theorem sc_Statement___or__ : FnScope ["self", "other", "brings", "kind"] ["self", "other"] (defScope s_Statement___or__) := ⟨rfl, rfl, rfl, by decide +kernel, rfl, by decide +kernel, by decide +kernel⟩
abbrev s_Statement_turns : Stmt := inClass (top 43) 3
/-- slots: 0 self -/
theorem sc_Statement_turns : FnScope ["self"] ["self"] (defScope s_Statement_turns) := ⟨rfl, rfl, rfl, by decide +kernel, rfl, by decide +kernel, by decide +kernel⟩
abbrev s_Statement_brings : Stmt := inClass (top 43) 4
/-- slots: 0 self -/
theorem sc_Statement_brings : FnScope ["self"] ["self"] (defScope s_Statement_brings) := ⟨rfl, rfl, rfl, by decide +kernel, rfl, by decide +kernel, by decide +kernel⟩
abbrev s_Statement_reads : Stmt := inClass (top 43) 5
/-- slots: 0 self -/
theorem sc_Statement_reads : FnScope ["self"] ["self"] (defScope s_Statement_reads) := ⟨rfl, rfl, rfl, by decide +kernel, rfl, by decide +kernel, by decide +kernel⟩
abbrev s_Statement_writes : Stmt := inClass (top 43) 6
/-- slots: 0 self -/
theorem sc_Statement_writes : FnScope ["self"] ["self"] (defScope s_Statement_writes) := ⟨rfl, rfl, rfl, by decide +kernel, rfl, by decide +kernel, by decide +kernel⟩
abbrev s_Statement_text : Stmt := inClass (top 43) 7
/-- slots: 0 self 1 turns 2 brings 3 kind 4 kinds 5 number -/
theorem sc_Statement_text : FnScope ["self", "turns", "brings", "kind", "kinds", "number"] ["self"] (defScope s_Statement_text) := ⟨rfl, rfl, rfl, by decide +kernel, rfl, by decide +kernel, by decide +kernel⟩
abbrev s_Statement_parse : Stmt := inClass (top 43) 8
/-- slots: 0 cls 1 text -/
theorem sc_Statement_parse : FnScope ["cls", "text"] ["cls", "text"] (defScope s_Statement_parse) := ⟨rfl, rfl, rfl, by decide +kernel, rfl, by decide +kernel, by decide +kernel⟩
abbrev s_is_bound : Stmt := top 48
/-- slots: 0 thing -/
theorem sc_is_bound : FnScope ["thing"] ["thing"] (defScope s_is_bound) := ⟨rfl, rfl, rfl, by decide +kernel, rfl, by decide +kernel, by decide +kernel⟩
abbrev s_are_words : Stmt := top 49
/-- slots: 0 thing 1 word -/
theorem sc_are_words : FnScope ["thing", "word"] ["thing"] (defScope s_are_words) := ⟨rfl, rfl, rfl, by decide +kernel, rfl, by decide +kernel, by decide +kernel⟩
abbrev s_is_test : Stmt := top 50
/-- slots: 0 thing 1 words 2 least 3 most -/
theorem sc_is_test : FnScope ["thing", "words", "least", "most"] ["thing"] (defScope s_is_test) := ⟨rfl, rfl, rfl, by decide +kernel, rfl, by decide +kernel, by decide +kernel⟩
abbrev s_is_verb : Stmt := top 51
/-- slots: 0 thing -/
theorem sc_is_verb : FnScope ["thing"] ["thing"] (defScope s_is_verb) := ⟨rfl, rfl, rfl, by decide +kernel, rfl, by decide +kernel, by decide +kernel⟩
abbrev s_is_deed : Stmt := top 52
/-- slots: 0 thing -/
theorem sc_is_deed : FnScope ["thing"] ["thing"] (defScope s_is_deed) := ⟨rfl, rfl, rfl, by decide +kernel, rfl, by decide +kernel, by decide +kernel⟩
abbrev s_kept_test : Stmt := top 53
/-- slots: 0 test 1 words 2 least 3 most -/
theorem sc_kept_test : FnScope ["test", "words", "least", "most"] ["test"] (defScope s_kept_test) := ⟨rfl, rfl, rfl, by decide +kernel, rfl, by decide +kernel, by decide +kernel⟩
abbrev s_kept_deed : Stmt := top 54
/-- slots: 0 deed -/
theorem sc_kept_deed : FnScope ["deed"] ["deed"] (defScope s_kept_deed) := ⟨rfl, rfl, rfl, by decide +kernel, rfl, by decide +kernel, by decide +kernel⟩
abbrev s_are_tests : Stmt := top 56
/-- slots: 0 thing 1 test -/
theorem sc_are_tests : FnScope ["thing", "test"] ["thing"] (defScope s_are_tests) := ⟨rfl, rfl, rfl, by decide +kernel, rfl, by decide +kernel, by decide +kernel⟩
abbrev s_are_deeds : Stmt := top 57
/-- slots: 0 thing 1 deed -/
theorem sc_are_deeds : FnScope ["thing", "deed"] ["thing"] (defScope s_are_deeds) := ⟨rfl, rfl, rfl, by decide +kernel, rfl, by decide +kernel, by decide +kernel⟩
abbrev s_Trigger___init__ : Stmt := inClass (top 58) 0
/-- slots: 0 self 1 name 2 olds 3 news 4 tests 5 deeds 6 test 7 deed -/
theorem sc_Trigger___init__ : FnScope ["self", "name", "olds", "news", "tests", "deeds", "test", "deed"] ["self", "name", "olds", "news", "tests", "deeds"] (defScope s_Trigger___init__) := ⟨rfl, rfl, rfl, by decide +kernel, rfl, by decide +kernel, by decide +kernel⟩
abbrev s_Trigger___eq__ : Stmt := inClass (top 58) 1
/-- slots: 0 self 1 other -/
theorem sc_Trigger___eq__ : FnScope ["self", "other"] ["self", "other"] (defScope s_Trigger___eq__) := ⟨rfl, rfl, rfl, by decide +kernel, rfl, by decide +kernel, by decide +kernel⟩
abbrev s_Trigger_label : Stmt := inClass (top 58) 2
/-- slots: 0 self -/
theorem sc_Trigger_label : FnScope ["self"] ["self"] (defScope s_Trigger_label) := ⟨rfl, rfl, rfl, by decide +kernel, rfl, by decide +kernel, by decide +kernel⟩
abbrev s_Trigger_olds : Stmt := inClass (top 58) 3
/-- slots: 0 self -/
theorem sc_Trigger_olds : FnScope ["self"] ["self"] (defScope s_Trigger_olds) := ⟨rfl, rfl, rfl, by decide +kernel, rfl, by decide +kernel, by decide +kernel⟩
abbrev s_Trigger_news : Stmt := inClass (top 58) 4
/-- slots: 0 self -/
theorem sc_Trigger_news : FnScope ["self"] ["self"] (defScope s_Trigger_news) := ⟨rfl, rfl, rfl, by decide +kernel, rfl, by decide +kernel, by decide +kernel⟩
abbrev s_Trigger_tests : Stmt := inClass (top 58) 5
/-- slots: 0 self -/
theorem sc_Trigger_tests : FnScope ["self"] ["self"] (defScope s_Trigger_tests) := ⟨rfl, rfl, rfl, by decide +kernel, rfl, by decide +kernel, by decide +kernel⟩
abbrev s_Trigger_deeds : Stmt := inClass (top 58) 6
/-- slots: 0 self -/
theorem sc_Trigger_deeds : FnScope ["self"] ["self"] (defScope s_Trigger_deeds) := ⟨rfl, rfl, rfl, by decide +kernel, rfl, by decide +kernel, by decide +kernel⟩
abbrev s_Trigger_is_set_off_by : Stmt := inClass (top 58) 7
/-- slots: 0 self 1 statement -/
theorem sc_Trigger_is_set_off_by : FnScope ["self", "statement"] ["self", "statement"] (defScope s_Trigger_is_set_off_by) := ⟨rfl, rfl, rfl, by decide +kernel, rfl, by decide +kernel, by decide +kernel⟩
abbrev s_l_source : Stmt := top 60
/-- slots: 0 _law_script 1 _law_great 2 _law_seed 3 _law_cell -/
theorem sc_l_source : FnScope ["_law_script", "_law_great", "_law_seed", "_law_cell"] ["_law_script"] (defScope s_l_source) := ⟨rfl, rfl, rfl, by decide +kernel, rfl, by decide +kernel, by decide +kernel⟩
abbrev s_l_draw : Stmt := top 61
/-- slots: 0 _law_source_here 1 _law_many 2 _law_digit 3 _law_mixed -/
theorem sc_l_draw : FnScope ["_law_source_here", "_law_many", "_law_digit", "_law_mixed"] ["_law_source_here", "_law_many"] (defScope s_l_draw) := ⟨rfl, rfl, rfl, by decide +kernel, rfl, by decide +kernel, by decide +kernel⟩
abbrev s_l_pick : Stmt := top 62
/-- slots: 0 _law_source_here 1 _law_things -/
theorem sc_l_pick : FnScope ["_law_source_here", "_law_things"] ["_law_source_here", "_law_things"] (defScope s_l_pick) := ⟨rfl, rfl, rfl, by decide +kernel, rfl, by decide +kernel, by decide +kernel⟩
abbrev s_l_order : Stmt := top 63
/-- slots: 0 _law_source_here 1 _law_many 2 _law_left 3 _law_k -/
theorem sc_l_order : FnScope ["_law_source_here", "_law_many", "_law_left", "_law_k"] ["_law_source_here", "_law_many"] (defScope s_l_order) := ⟨rfl, rfl, rfl, by decide +kernel, rfl, by decide +kernel, by decide +kernel⟩
abbrev s_l_subset : Stmt := top 64
/-- slots: 0 _law_source_here 1 _law_row 2 _law_one -/
theorem sc_l_subset : FnScope ["_law_source_here", "_law_row", "_law_one"] ["_law_source_here", "_law_row"] (defScope s_l_subset) := ⟨rfl, rfl, rfl, by decide +kernel, rfl, by decide +kernel, by decide +kernel⟩
abbrev s_l_name : Stmt := top 65
/-- slots: 0 _law_source_here 1 _law_taken 2 _law_size 3 _law_name_here 4 _law_k 5 _law_sign 6 _law_one -/
theorem sc_l_name : FnScope ["_law_source_here", "_law_taken", "_law_size", "_law_name_here", "_law_k", "_law_sign", "_law_one"] ["_law_source_here", "_law_taken"] (defScope s_l_name) := ⟨rfl, rfl, rfl, by decide +kernel, rfl, by decide +kernel, by decide +kernel⟩
abbrev s_l_names : Stmt := top 66
/-- slots: 0 _law_source_here 1 _law_many 2 _law_names_here 3 _law_k -/
theorem sc_l_names : FnScope ["_law_source_here", "_law_many", "_law_names_here", "_law_k"] ["_law_source_here", "_law_many"] (defScope s_l_names) := ⟨rfl, rfl, rfl, by decide +kernel, rfl, by decide +kernel, by decide +kernel⟩
abbrev s_l_some : Stmt := top 67
/-- slots: 0 _law_source_here 1 _law_things 2 _law_found 3 _law_k -/
theorem sc_l_some : FnScope ["_law_source_here", "_law_things", "_law_found", "_law_k"] ["_law_source_here", "_law_things"] (defScope s_l_some) := ⟨rfl, rfl, rfl, by decide +kernel, rfl, by decide +kernel, by decide +kernel⟩
abbrev s_l_plan : Stmt := top 68
/-- slots: 0 _law_source_here 1 _law_kinds 2 _law_turns 3 _law_brings 4 _law_kind 5 _law_k -/
theorem sc_l_plan : FnScope ["_law_source_here", "_law_kinds", "_law_turns", "_law_brings", "_law_kind", "_law_k"] ["_law_source_here", "_law_kinds"] (defScope s_l_plan) := ⟨rfl, rfl, rfl, by decide +kernel, rfl, by decide +kernel, by decide +kernel⟩
abbrev s_l_lots : Stmt := top 69
/-- slots: 0 _law_kinds 1 _law_kind -/
theorem sc_l_lots : FnScope ["_law_kinds", "_law_kind"] ["_law_kinds"] (defScope s_l_lots) := ⟨rfl, rfl, rfl, by decide +kernel, rfl, by decide +kernel, by decide +kernel⟩
abbrev s_l_sum : Stmt := top 70
/-- slots: 0 _law_source_here 1 _law_words 2 _law_parts 3 _law_word -/
theorem sc_l_sum : FnScope ["_law_source_here", "_law_words", "_law_parts", "_law_word"] ["_law_source_here", "_law_words"] (defScope s_l_sum) := ⟨rfl, rfl, rfl, by decide +kernel, rfl, by decide +kernel, by decide +kernel⟩
abbrev s_l_deed : Stmt := top 71
/-- slots: 0 _law_source_here 1 _law_kinds 2 _law_counters 3 _law_way 4 _law_turns 5 _law_brings 6 _law_words 7 _law_parts 8 _law_number -/
theorem sc_l_deed : FnScope ["_law_source_here", "_law_kinds", "_law_counters", "_law_way", "_law_turns", "_law_brings", "_law_words", "_law_parts", "_law_number"] ["_law_source_here", "_law_kinds", "_law_counters"] (defScope s_l_deed) := ⟨rfl, rfl, rfl, by decide +kernel, rfl, by decide +kernel, by decide +kernel⟩
abbrev s_l_hook : Stmt := top 72
/-- slots: 0 _law_source_here 1 _law_name_here 2 _law_kinds 3 _law_counters 4 _law_tests 5 _law_k 6 _law_low 7 _law_most 8 _law_deeds -/
theorem sc_l_hook : FnScope ["_law_source_here", "_law_name_here", "_law_kinds", "_law_counters", "_law_tests", "_law_k", "_law_low", "_law_most", "_law_deeds"] ["_law_source_here", "_law_name_here", "_law_kinds", "_law_counters"] (defScope s_l_hook) := ⟨rfl, rfl, rfl, by decide +kernel, rfl, by decide +kernel, by decide +kernel⟩
abbrev s_l_made_deed : Stmt := top 73
/-- slots: 0 _law_deed_here -/
theorem sc_l_made_deed : FnScope ["_law_deed_here"] ["_law_deed_here"] (defScope s_l_made_deed) := ⟨rfl, rfl, rfl, by decide +kernel, rfl, by decide +kernel, by decide +kernel⟩
abbrev s_l_tried : Stmt := top 74
/-- slots: 0 _law_parts 1 _law_found 2 e -/
theorem sc_l_tried : FnScope ["_law_parts", "_law_found", "e"] ["_law_parts"] (defScope s_l_tried) := ⟨rfl, rfl, rfl, by decide +kernel, rfl, by decide +kernel, by decide +kernel⟩
abbrev s_l_is_name : Stmt := top 75
/-- slots: 0 _law_value 1 _law_sign -/
theorem sc_l_is_name : FnScope ["_law_value", "_law_sign"] ["_law_value"] (defScope s_l_is_name) := ⟨rfl, rfl, rfl, by decide +kernel, rfl, by decide +kernel, by decide +kernel⟩
abbrev s_l_are_names : Stmt := top 76
/-- slots: 0 _law_value 1 _law_one 2 _law_k -/
theorem sc_l_are_names : FnScope ["_law_value", "_law_one", "_law_k"] ["_law_value"] (defScope s_l_are_names) := ⟨rfl, rfl, rfl, by decide +kernel, rfl, by decide +kernel, by decide +kernel⟩
abbrev s_l_is_word : Stmt := top 77
/-- slots: 0 _law_value -/
theorem sc_l_is_word : FnScope ["_law_value"] ["_law_value"] (defScope s_l_is_word) := ⟨rfl, rfl, rfl, by decide +kernel, rfl, by decide +kernel, by decide +kernel⟩
abbrev s_l_is_bound : Stmt := top 78
/-- slots: 0 _law_value -/
theorem sc_l_is_bound : FnScope ["_law_value"] ["_law_value"] (defScope s_l_is_bound) := ⟨rfl, rfl, rfl, by decide +kernel, rfl, by decide +kernel, by decide +kernel⟩
abbrev s_l_is_test : Stmt := top 79
/-- slots: 0 _law_value 1 _law_words 2 _law_word 3 _law_k -/
theorem sc_l_is_test : FnScope ["_law_value", "_law_words", "_law_word", "_law_k"] ["_law_value"] (defScope s_l_is_test) := ⟨rfl, rfl, rfl, by decide +kernel, rfl, by decide +kernel, by decide +kernel⟩
abbrev s_l_is_deed : Stmt := top 80
/-- slots: 0 _law_value -/
theorem sc_l_is_deed : FnScope ["_law_value"] ["_law_value"] (defScope s_l_is_deed) := ⟨rfl, rfl, rfl, by decide +kernel, rfl, by decide +kernel, by decide +kernel⟩
abbrev s_l_due : Stmt := top 81
/-- slots: 0 _law_parts 1 _law_fits 2 _law_tests 3 _law_deeds 4 _law_words 5 _law_bad 6 _law_test 7 _law_deed_here 8 _law_word 9 _law_is_fit -/
theorem sc_l_due : FnScope ["_law_parts", "_law_fits", "_law_tests", "_law_deeds", "_law_words", "_law_bad", "_law_test", "_law_deed_here", "_law_word", "_law_is_fit"] ["_law_parts"] (defScope s_l_due) := ⟨rfl, rfl, rfl, by decide +kernel, rfl, by decide +kernel, by decide +kernel⟩
abbrev s_l_odd : Stmt := top 82
/-- slots: 0 _law_source_here 1 _law_at 2 _law_test 3 _law_deed_here 4 _law_good 5 _law_some_here -/
theorem sc_l_odd : FnScope ["_law_source_here", "_law_at", "_law_test", "_law_deed_here", "_law_good", "_law_some_here"] ["_law_source_here", "_law_at"] (defScope s_l_odd) := ⟨rfl, rfl, rfl, by decide +kernel, rfl, by decide +kernel, by decide +kernel⟩
abbrev s_law : Stmt := top 83
/-- slots: 0 _law_script 1 _law_source_here 2 _law_names_here 3 _law_turn 4 _law_name_here 5 _law_olds 6 _law_news 7 _law_tests 8 _law_deeds 9 _law_parts 10 _law_k 11 _law_at 12 _law_deed_here -/
theorem sc_law : FnScope ["_law_script", "_law_source_here", "_law_names_here", "_law_turn", "_law_name_here", "_law_olds", "_law_news", "_law_tests", "_law_deeds", "_law_parts", "_law_k", "_law_at", "_law_deed_here"] ["_law_script"] (defScope s_law) := ⟨rfl, rfl, rfl, by decide +kernel, rfl, by decide +kernel, by decide +kernel⟩
end Lw
/-! ## SlExc -/
set_option Elab.async false
set_option linter.all false
set_option maxRecDepth 100000
set_option maxHeartbeats 4000000
namespace Sl
open PySem PySem.Spec PyProof.Rows L2
section
variable {X : Cx} {CX : CXT} {k : Nat} {f D fI : Addr} {fd : FuncData} {ps : List Str} {sp : Sp} {ds : List Value} {dvs : List V} {E : XK} {x m : Str} {mc : Value} {e : Expr} {es : List Expr} {p p1 p2 pos : Pos} {t : TA}
/-- D.m(e, ..): a def read off an own class -/
theorem pe_clsfn {pl : Sem Bool} (hg : Gl X x) (hm : X.mg x = some (.ref D)) (r : ClX.CRead X.K D mc) (kv : PySem.W.findCls X.K (.ref D) mc m = some (.val (.ref f))) (hk : PySem.W.keepIn X.K (.ref f) = true)
    (F : FnOk X.prog X.w X.K X.mg X.base CX k f fd ps sp) (hr : Room k X.A) (hb : Binds X.K fd ps ds) (hd : Vals dvs ds) (hx : Passes CX X E) (ha : PA X (e :: es) t)
    (hc : eval (.Call (.Attribute (.Name x p1) m p2) (e :: es) [] pos) X.env = (do
      let ov ← eval (.Name x p1) X.env
      standAt p2.atName
      let (f, first) ← holding [ov] (getMethod ov m pl)
      callWith pos f first (backTo pos (starEach (e :: es) X.env)) (backToKw pos (keywordEach [] X.env))) := by rfl)
    (hdb : (x == ("__debug__" : Str)) = false := by decide)
    (he : starEach (e :: es) X.env = (false, eval e X.env) :: starEach es X.env := by rfl) (hpl : (backTo pos (starEach es X.env)).any (·.1) = false := by rfl) :
    PE X (.Call (.Attribute (.Name x p1) m p2) (e :: es) [] pos) (tCall sp dvs E t) := by
  refine ⟨fun pins s σ H Q I h => ?_⟩
  refine PySem.W.methodCall_KW (ld_glob I hg hm ?_ hdb) hc
  refine PySem.W.method_cls I.kIn r.ga (ClX.getcval_ok (v := .ref f) I r ⟨kv, rfl⟩ fun s1 I1 => ?_)
  refine PySem.W.callWith_K (h₀ := X.base) I1.ok.mod.kin hk (thn (ha.run pos pins s1 σ H _ I1 h) fun us s2 ⟨vs, H2, I2, r2, q⟩ => ⟨I2.kIn, ?_⟩) he hpl
  exact run_fn F hr hb hd hx I2 r2 q
/-- C(e, ..), an own exception, as a value -/
def tExc (C : Addr) (sp : Sp) (dvs : List V) (ta : TA) : TE := fun σ H Q => ta σ H fun vs H1 => vs.length ≤ 1000 ∧ ∀ a, H1 a = none → sp (.ref a :: (vs ++ dvs)) (upd H1 a (exo a C none)) (fun v H2 => v = .non ∧ Q (.ref a) H2) (fun _ _ _ => False)
theorem run_exc {C : Addr} {pins : List (Addr × Obj)} {σ : L2.St} {H1 : Hp} {s1 : Shared} {Q : VK} {us : List Value} {vs : List V} (T : OexC X.K C) (iC : PySem.W.findIn X.K (.ref C) "__init__" = some (some (.ref fI))) (tI : PySem.W.typeIn X.K (.ref fI) = some (.type "function"))
    (F1 : FnOk X.prog X.w X.K X.mg X.base CX k fI fd ps sp) (hr : Room (k + 1) X.A) (hb : Binds X.K fd ps ds) (hd : Vals dvs ds) (hx : Passes CX X (fun _ _ _ => False)) (I1 : Inv X pins σ H1 s1) (r1 : Vals vs us) (hz : vs.length ≤ 1000)
    (q1 : ∀ a, H1 a = none → sp (.ref a :: (vs ++ dvs)) (upd H1 a (exo a C none)) (fun v H2 => v = .non ∧ Q (.ref a) H2) (fun _ _ _ => False)) :
    wpAny (model X.prog X.w) X.A (call (.ref C) us) (EP X pins σ Q) X.xe s1 := by
  obtain ⟨nm, q, N, bs, bm, sn, sub, ab, col, dd, k0, k1, k2, k3, k5, hC, hbm⟩ := T.cls
  obtain ⟨hp, g, dr, tk, os⟩ := s1
  have hsz : hp.objs.size ≤ hp.objs.size + 1 := Nat.le_succ _
  have hn : H1 (hp.objs.size + 1) = none := I1.hok.fresh hsz
  have hq := q1 (hp.objs.size + 1) hn
  have kk : ∀ b o, hp.get? b = some o → ((hp.push (PySem.W.kdv_tup us)).push (PySem.HandSPX.excO C hp.objs.size)).get? b = some o := fun b o e => Heap.get?_push_of_some _ (Heap.get?_push_of_some _ e)
  have hget : ((hp.push (PySem.W.kdv_tup us)).push (PySem.HandSPX.excO C hp.objs.size)).get? (hp.objs.size + 1) = some (PySem.HandSPX.excO C hp.objs.size) := by heap_get
  have I2 : Inv X pins σ (upd H1 (hp.objs.size + 1) (exo (hp.objs.size + 1) C none)) ⟨(hp.push (PySem.W.kdv_tup us)).push (PySem.HandSPX.excO C hp.objs.size), g, dr, tk, os⟩ :=
    I1.laid (t' := tk) (a := hp.objs.size + 1) (o := exo (hp.objs.size + 1) C none) kk hsz (exo_ok hget)
  have r2 : Vals (V.ref (hp.objs.size + 1) :: (vs ++ dvs)) (Value.ref (hp.objs.size + 1) :: (us ++ ds)) := .cons rfl (r1.append hd)
  have hl : (Value.ref (hp.objs.size + 1) :: us ++ ds).length = ps.length := by
    have e := r2.length
    rw [F1.len _ _ _ _ hq] at e
    exact e.symm
  have hus : us.length ≤ sizeLine := by
    rw [← Paired.length r1, sizeLine_eq]
    omega
  refine wpAny_call (PySem.HandSPX.call_own F.excBase_ValueError (fun Y => PySem.HandSPX.refsVE_contains Y bm hbm) (I1.kIn _ _ hC) (PySem.W.looks_findIn I1.kIn iC) (fun self => PySem.W.bind_fn I1.kIn self tI) hus
    (codeAny_mono (F1.run _ X.stack _ _ ⟨Value.ref (hp.objs.size + 1) :: us, []⟩ (Value.ref (hp.objs.size + 1) :: (us ++ ds)) _ _ (fun _ _ _ => False) (hr.make C us []) (I2.env0.make C us []) (hb _ (Value.ref (hp.objs.size + 1) :: us) I2.kIn hl) r2 hq) fun r s' hq' => ?_))
  cases r with
  | error er => exact hx pins σ _ _ er s' I2 hq'
  | ok fl =>
    cases fl with
    | ret u =>
      obtain ⟨v, H3, I3, rv, ev, q3⟩ := I2.after hq'
      subst ev
      exact ⟨rv, ⟨V.ref (hp.objs.size + 1), H3, I3, rfl, q3⟩⟩
    | next => exact False.elim hq'
    | brk => exact False.elim hq'
    | cont => exact False.elim hq'
theorem pe_exc {C : Addr} (T : OexC X.K C) (iC : PySem.W.findIn X.K (.ref C) "__init__" = some (some (.ref fI))) (tI : PySem.W.typeIn X.K (.ref fI) = some (.type "function"))
    (F1 : FnOk X.prog X.w X.K X.mg X.base CX k fI fd ps sp) (hr : Room (k + 1) X.A) (hb : Binds X.K fd ps ds) (hd : Vals dvs ds) (hx : Passes CX X (fun _ _ _ => False)) (hg : Gl X x) (hm : X.mg x = some (.ref C)) (ha : PA X (e :: es) t)
    (hdb : (x == ("__debug__" : Str)) = false := by decide) (he : starEach (e :: es) X.env = (false, eval e X.env) :: starEach es X.env := by rfl) (hpl : (backTo pos (starEach es X.env)).any (·.1) = false := by rfl) :
    PE X (.Call (.Name x p) (e :: es) [] pos) (tExc C sp dvs t) := by
  refine ⟨fun pins s σ H Q I h => ?_⟩
  refine wpAny_Call_Name_kw (ld_glob I hg hm ?_ hdb)
  refine PySem.W.callWith_K (h₀ := X.base) I.ok.mod.kin T.kC (thn (ha.run pos pins s σ H _ I h) fun us s1 ⟨vs, H1, I1, r1, hz, q1⟩ => ⟨I1.kIn, ?_⟩) he hpl
  exact run_exc T iC tI F1 hr hb hd hx I1 r1 hz q1
theorem pe_exc0 {C : Addr} (T : OexC X.K C) (iC : PySem.W.findIn X.K (.ref C) "__init__" = some (some (.ref fI))) (tI : PySem.W.typeIn X.K (.ref fI) = some (.type "function"))
    (F1 : FnOk X.prog X.w X.K X.mg X.base CX k fI fd ps sp) (hr : Room (k + 1) X.A) (hb : Binds X.K fd ps ds) (hd : Vals dvs ds) (hx : Passes CX X (fun _ _ _ => False)) (hg : Gl X x) (hm : X.mg x = some (.ref C))
    (hdb : (x == ("__debug__" : Str)) = false := by decide) : PE X (.Call (.Name x p) [] [] pos) (tExc C sp dvs tNil) := by
  refine ⟨fun pins s σ H Q I h => ?_⟩
  refine wpAny_Call_Name_kw (ld_glob I hg hm ?_ hdb)
  obtain ⟨hz, q1⟩ := h
  exact PySem.W.callWith_K0 I.kIn T.kC (run_exc (us := []) T iC tI F1 hr hb hd hx I .nil hz q1)
end
/-! ### an own exception that is held: its fields, its class -/
/-- what the class at D must say of reading an instance's attributes -/
structure ExR (K : PySem.W.Frag) (D : Addr) : Prop where
  ga : PySem.W.findIn K (.ref D) "__getattribute__" = some (some (.builtin "BaseException.__getattribute__"))
  gg : PySem.W.findIn K (.ref D) "__getattr__" = some none
  sb : PySem.W.subIn K (.ref D) (.type "BaseException") = some true
  hd : PySem.W.hasDictIn K D = true
  cl : PySem.W.findIn K (.ref D) "__class__" = some (some (.builtin "object.__class__"))
  gt : PySem.W.specialIn K (.builtin "object.__class__") "__get__" = some (some (.builtin "getset_descriptor.__get__"))
  tk : PySem.W.takesIn K (.builtin "object.__class__") = some true
  ob : PySem.W.mroIn K D (.type "object") = some true
def tExF (K : PySem.W.Frag) (f : Str) (te : TE) : TE := fun σ H Q => te σ H fun x H1 => ∃ (a D dx : Addr) (fs : List (Str × V)) (v : V), x = .ref a ∧ H1 a = some (exo a D (some dx)) ∧ H1 dx = some (exd dx fs) ∧ ExR K D ∧ PySem.W.findIn K (.ref D) f = some none ∧ fs.lookup f = some v ∧ Q v H1
section
variable {X : Cx} {f : Str} {e : Expr} {te : TE} {pos : Pos}
theorem inst_of {pins : List (Addr × Obj)} {σ : L2.St} {H : Hp} {s : Shared} {a D dx : Addr} {fs : List (Str × V)} (I : Inv X pins σ H s) (ha : H a = some (exo a D (some dx))) (hx : H dx = some (exd dx fs)) :
    ∃ (ox od : Obj) (mA : Str → Option Value), PySem.W.InstAt s.heap a ox D (some od) ∧ (∀ g, PySem.W.lookIn g od = some (mA g)) ∧ ∀ g, RelO (fs.lookup g) (mA g) := by
  obtain ⟨t1, ho⟩ := exo_at I.hok ha
  obtain ⟨mA, hn, hr⟩ := exd_at I.hok hx
  obtain ⟨od, hod, hl⟩ := lookIn_ns hn
  exact ⟨_, od, mA, ⟨ho, rfl, rfl, hod⟩, hl, hr⟩
theorem pe_exf (he : PE X e te) (hb : attributeBase e f X.env (eval e X.env) = eval e X.env := by rfl) : PE X (.Attribute e f pos) (tExF X.K f te) := by
  refine ⟨fun pins s σ H Q I h => attr_of hb (thn (he.run pins s σ H _ I h) fun u s1 hh => ?_)⟩
  obtain ⟨x, H1, I1, rx, a, D, dx, fs, v, rfl, ha, hx, T, nf, lf, q⟩ := hh
  cases rx
  obtain ⟨ox, od, mA, J, hl, hr⟩ := inst_of I1 ha hx
  obtain ⟨u, hu, ru⟩ := RelO.some_of (v := v) (o := mA f) (by rw [← lf]; exact hr f)
  exact HandSPX.exc_get I1.kIn J T.ga T.gg T.sb (PySem.W.findObj_own T.hd nf rfl (by rw [hl, hu])) (handed_of ru) ⟨v, H1, I1.tok _, ru, q⟩
end
/-- e.__class__ of such an instance -/
theorem class_of {prog : Program} {w : World} {A : Around} {E : Value → Shared → Prop} {K : PySem.W.Frag} {x D : Addr} {ox : Obj} {od : Option Obj} {hp : Heap} {gs : Array GenState} {dr : Drawn} {t : Nat} {os : OsState} {Q : Option Value → Shared → Prop} (T : ExR K D) (X : K.In hp) (I : PySem.W.InstAt hp x ox D od)
    (q : Q (some (.ref D)) ⟨hp, gs, dr, t + 1, os⟩) : wpAny (model prog w) A (getAttr? (.ref x) "__class__") Q E ⟨hp, gs, dr, t, os⟩ := by
  have found : PySem.W.findObj K D od "__class__" = some (.bind (.builtin "getset_descriptor.__get__") (.builtin "object.__class__")) := by
    obtain ⟨cd, hc, _⟩ := PySem.W.any_some T.hd
    unfold PySem.W.findObj
    rw [hc, Option.bind_some, T.cl, Option.bind_some]
    simp [T.gt, T.tk]
  have lT := I.type (M := model prog w)
  have lG := PySem.W.looks_findIn (M := model prog w) X T.ga
  have lF := PySem.W.looks_find (M := model prog w) X I found
  have isB : PySem.W.Looks (model prog w) hp (isInstance (.ref x) (.type "BaseException")) true := lT.andThen (PySem.W.looks_subIn X T.sb)
  have other : (Value.builtin "BaseException.__getattribute__" == Value.builtin "object.__getattribute__") = false := by decide +kernel
  -- the look for the hook, then BaseException.__getattribute__ itself
  have inner : wpAny (model prog w) A.in1 (Builtin.«object.__getattribute__» ⟨[.ref x, .str "__class__" t], []⟩) (fun fin s' => fin = .done (.ret (.ref D)) ∧ s' = ⟨hp, gs, dr, t + 1, os⟩) (fun _ _ => False) ⟨hp, gs, dr, t + 1, os⟩ := by
    unfold Builtin.«object.__getattribute__»
    refine wpAny_bind (wpAny_of_eq (a := ((Value.ref x : Value), [Value.str "__class__" t])) (by first | rfl | (simp only [slotArgs]; rfl)) (wpAny_bind (wpAny_pure (wpAny_bind (lT.at (wpAny_bind (lF.at ?_)))))))
    show wpAny _ _ (holding [Value.builtin "object.__class__"] (call (.builtin "getset_descriptor.__get__") [.builtin "object.__class__", .ref x, .ref D]) >>= ret) _ _ _
    refine wpAny_bind (wpAny_holding (wpAny_call (PySem.W.class_get (s := ⟨hp, gs, dr, t + 1, os⟩) (ox := ox) (od := od) X I T.ob ?_)))
    exact wpAny_pure ⟨rfl, rfl⟩
  unfold getAttr? getAttrBy? getAttrBy
  refine wpAny_bind (wpAny_mkText (wpAny_bind (wpAny_attempt (wpAny_holding (wpAny_bind (lT.at (wpAny_bind (lG.at ?_))))))))
  have c1 : (onTheHeap (Value.ref D) && Value.builtin "BaseException.__getattribute__" == Value.builtin "object.__getattribute__") = false := by
    rw [other]
    rfl
  show wpAny _ _ (if (onTheHeap (Value.ref D) && Value.builtin "BaseException.__getattribute__" == Value.builtin "object.__getattribute__") = true then _ else _) _ _ _
  rw [c1, if_neg Bool.false_ne_true]
  unfold getAttrByItsOwn hookBefore
  refine wpAny_bind ?_
  rw [if_pos (show onTheHeap (Value.ref D) = true from rfl)]
  refine (PySem.W.looks_findIn (M := model prog w) X T.gg).at (wpAny_bind (wpAny_attempt (wpAny_holding ?_)))
  unfold callGetattribute
  rw [show (false && onTheHeap (Value.builtin "BaseException.__getattribute__")) = false from rfl, if_neg Bool.false_ne_true]
  unfold boundAndCalled
  rw [PySem.F.excAttr_ValueError.ga.bind (.ref x)]
  refine wpAny_bind (wpAny_pure ?_)
  show wpAny _ _ (call (.builtin "BaseException.__getattribute__") [.ref x, .str "__class__" t]) _ _ _
  refine wpAny_call (codeAny_call_builtin PySem.F.excAttr_ValueError.ga.plain PySem.F.entry_bexc_ga ?_)
  refine @PySem.W.check_slot (model prog w) _ _ ⟨hp, gs, dr, t + 1, os⟩ "BaseException.__getattribute__" "BaseException" "__getattribute__" (.ref x) [.str "__class__" t] [] _ (by decide +kernel) (by decide +kernel) isB (PySem.F.args_bexc_ga (.ref x) (.str "__class__" t)) ?_
  refine wpAny_mono inner (fun fin s' ⟨e1, e2⟩ => ?_) fun _ _ z => z.elim
  subst e1 e2
  show wpAny _ _ (handedOut (.ref D)) _ _ _
  rw [PySem.W.handedOut_of (v := .ref D) rfl]
  first
    | exact wpAny_pure (wpAny_pure q)
    | exact wpAny_pure q
    | exact wpAny_pure (wpAny_bind (wpAny_pure (wpAny_pure q)))
theorem kitx_exo {K : PySem.W.Frag} {x D : Addr} {ox : Obj} {od : Option Obj} (T : ExR K D) : PySem.W.KitX K (.ref x) (.ref D) (fun h => PySem.W.InstAt h x ox D od) where
  ty := fun _ _ _ I => I.type
  it := fun M h X _ => by
    obtain ⟨cd, hc, _⟩ := PySem.W.any_some T.hd
    unfold PySem.W.clsIn at hc
    split at hc
    · rename_i oc dd cd' sl ho
      intro A1 Q1 E1 s1 kp q
      unfold isType loadHead
      exact wpAny_bind (wpAny_loadPart (kp _ _ (X _ _ ho)) (wpAny_pure q))
    · cases hc
  ne := fun h tp dd its n sl X htp => by
    cases hb : (Value.ref D == Value.ref tp) with
    | false => rfl
    | true =>
      have e : D = tp := Value.ref.inj (beq_iff_eq.mp hb)
      subst e
      obtain ⟨cd, hc, _⟩ := PySem.W.any_some T.hd
      unfold PySem.W.clsIn at hc
      split at hc
      · rename_i oc dd2 cd' sl2 ho
        have z := X _ _ ho
        rw [htp] at z
        cases z
      · cases hc
  ca := fun {prog w A E Q s} X I q => by
    obtain ⟨hp, gs, dr, t, os⟩ := s
    exact class_of T X I q
/-- a made exception of the class at D: with its dict at some dx, or without one -/
def ExcAt (H : Hp) (a D : Addr) : Prop := H a = some (exo a D none) ∨ ∃ (dx : Addr) (fs : List (Str × V)), H a = some (exo a D (some dx)) ∧ H dx = some (exd dx fs)
def rIsX (K : PySem.W.Frag) : List V → Hp → VK → Prop := fun xs H Q => ∃ (a D : Addr) (c : V) (cv : Value) (b : Bool), xs = [.ref a, c] ∧ ExcAt H a D ∧ ExR K D ∧ ClsV c cv ∧ PySem.W.kitOne K (.ref D) cv = some b ∧ Q (.bl b) H
theorem call_isx {X : Cx} : CallR X (.builtin "isinstance") (rIsX X.K) := by
  intro pins s σ H xs us Q I r h
  obtain ⟨a, D, c, cv, b, rfl, ha, T, hc, hk, q⟩ := h
  obtain ⟨u1, u2, rfl, r1, r2⟩ := vals2 r
  cases (show u1 = Value.ref a from r1)
  have e := hc.eq r2
  subst e
  have J : ∃ (ox : Obj) (od : Option Obj), PySem.W.InstAt s.heap a ox D od := by
    rcases ha with ha | ⟨dx, fs, ha, hx⟩
    · obtain ⟨t1, ho⟩ := exo_at I.hok ha
      exact ⟨_, none, ho, rfl, rfl, trivial⟩
    · obtain ⟨ox, od, _, J, _⟩ := inst_of I ha hx
      exact ⟨ox, some od, J⟩
  obtain ⟨ox, od, J⟩ := J
  exact PySem.W.kia_one (kitx_exo (ox := ox) (od := od) T) I.kIn J hk (fun z => nomatch z) fun tk => ⟨.bl b, H, I.tok tk, rfl, q⟩
end Sl
/-! ## SlKw -/
set_option Elab.async false
set_option linter.all false
set_option maxRecDepth 100000
set_option maxHeartbeats 4000000
namespace Sl
open PySem PySem.Spec PyProof.Rows L2
section
variable {prog : Program} {w : World} {A : Around} {E : Value → Shared → Prop} {R : Result → Shared → Prop} {h : Heap} {g : Array GenState} {d : Drawn} {t : Nat} {os : OsState}
variable {nm q : Str} {C N : Addr} {bs bm bmB : List Value} {hdct : Bool} {sn : List Str} {sub : List Value} {ab : Bool} {col : Option Bool} {dd : Option Addr} {k0 k1 k2 k3 k5 : Option Value} {B newId initId : String}
theorem kw_tc {kw : List (Str × Value)} {Q : Unit → Shared → Prop} (hC : h.get? C = some (excClassObj nm q C N bs bm hdct sn sub ab col dd k0 k1 k2 k3 k5 newId)) (hq : Q () ⟨h, g, d, t, os⟩) :
    wpAny (model prog w) A (checkBuiltinCall "type.__call__" ⟨[.ref C], kw⟩) Q E ⟨h, g, d, t, os⟩ := by
  have f := tc_sub
  have ht : (⟨h, g, d, t, os⟩ : Shared).TypeIs (.ref C) "type" := ⟨_, hC, rfl⟩
  simp only [checkBuiltinCall, tc_kind, tc_split]
  repeat (any_goals (first | assumption | with_reducible refine wpAny_loadPart_at hC ?_ | with_reducible refine wpAny_onRaise ?_ | with_reducible refine wpAny_map ?_ | wp_step))
theorem kw_check_new (F : ExcBaseFacts B newId initId bmB) (hT : ∀ Y : String, bm.contains (.type Y) = bmB.contains (.type Y)) {kw : List (Str × Value)} {Q : Unit → Shared → Prop}
    (hC : h.get? C = some (excClassObj nm q C N bs bm hdct sn sub ab col dd k0 k1 k2 k3 k5 newId)) (hq : Q () ⟨h, g, d, t, os⟩) : wpAny (model prog w) A (checkBuiltinCall newId ⟨[.ref C], kw⟩) Q E ⟨h, g, d, t, os⟩ := by
  have isSub : (Value.ref C :: bm).contains (.type B) = true := by rw [List.contains_cons, hT, F.hasB, Bool.or_true]
  have noS := F.noStar
  simp only [checkBuiltinCall, F.newKind, F.newSplit, F.newRow]
  repeat (first | refine wpAny_loadPart_at hC ?_ | (refine wpAny_isSubtype_exc hC ?_; rw [isSub]) | refine wpAny_staticBase_exc hC ?_ | refine wpAny_madeBy_exc hC ?_ | simp only [bne_self_eq_false, Bool.false_eq_true, if_false] | wp_step)
  exact hq
theorem kw_new (F : ExcBaseFacts B newId initId bmB) (hT : ∀ Y : String, bm.contains (.type Y) = bmB.contains (.type Y)) {kw : List (Str × Value)}
    (hC : h.get? C = some (excClassObj nm q C N bs bm hdct sn sub ab col dd k0 k1 k2 k3 k5 newId))
    (hq : R (.ok (.ret (.ref (h.objs.size + 1)))) ⟨(h.push (PySem.W.kdv_tup [])).push (PySem.HandSPX.excO C h.objs.size), g, d, t, os⟩) : codeAny (model prog w) A (.builtin newId ⟨[.ref C], kw⟩) R ⟨h, g, d, t, os⟩ := by
  have ends := F.ends
  have c1 : (Value.ref C :: bm).contains (.type B) = true := by rw [List.contains_cons, hT, F.hasB, Bool.or_true]
  have c2 : (Value.ref C :: bm).contains (.type "AttributeError") = false := by rw [List.contains_cons, hT, F.noAttr]; rfl
  have c3 : (Value.ref C :: bm).contains (.type "NameError") = false := by rw [List.contains_cons, hT, F.noName]; rfl
  have small : ([] : List Value).length ≤ sizeLine := Nat.zero_le _
  refine codeAny_builtinAt F.entry ?_
  unfold Builtin.«BaseException.__new__»
  refine PySem.wpAt_bind ?_
  show PySem.wpAt _ _ _ (stack >>= _) _ _ _
  refine PySem.wpAt_bind (PySem.wpAt_stack fun p below => PySem.wpAt_of_wpAny ?_)
  wp_walk
  refine PySem.wpAt_of_wpAny ?_
  rw [F.owner]
  repeat (first | with_reducible refine wpAny_madeHere_exc F.canon hC ?_ | with_reducible refine wpAny_loadPart_at hC ?_ | (with_reducible refine wpAny_isSubtype_exc hC ?_; first | rw [c1] | rw [c2] | rw [c3]) | wp_step)
  show R _ _
  rw [Heap.size_push]
  exact hq
theorem kw_call (F : ExcBaseFacts B newId initId bmB) (hT : ∀ Y : String, bm.contains (.type Y) = bmB.contains (.type Y)) {kw : List (Str × Value)} {fI : Addr} {Q : Fin → Shared → Prop}
    (hC : h.get? C = some (excClassObj nm q C N bs bm hdct sn sub ab col dd k0 k1 k2 k3 k5 newId))
    (hi : PySem.W.Looks (model prog w) h (typeLookup (.ref C) "__init__") (some (.ref fI))) (hb : ∀ self, PySem.W.Looks (model prog w) h (bindSpecial (.ref fI) self) (.ref fI, [self]))
    (hq : codeAny (model prog w) A (.call (.ref fI) ⟨[.ref (h.objs.size + 1)], kw⟩)
      (fun r s' => match r with | .ok (.ret v) => v = .none ∧ Q (.done (.ret (.ref (h.objs.size + 1)))) s' | .ok _ => False | .error e => E e s')
      ⟨(h.push (PySem.W.kdv_tup [])).push (PySem.HandSPX.excO C h.objs.size), g, d, t, os⟩) :
    wpAny (model prog w) A (Builtin.«type.__call__» ⟨[.ref C], kw⟩) Q E ⟨h, g, d, t, os⟩ := by
  repeat (first | with_reducible refine wpAny_loadPart_at hC ?_ | with_reducible refine wpAny_madeBy_exc hC ?_ | wp_step)
  refine codeAny_call_builtin_code (Code.quiet_builtin _ F.quiet) (kw_check_new F hT hC ?_)
  refine kw_new F hT hC ?_
  show wpAny _ _ _ _ _ _
  have kp : ∀ b o, h.get? b = some o → ((h.push (PySem.W.kdv_tup [])).push (PySem.HandSPX.excO C h.objs.size)).get? b = some o := fun b o e => Heap.get?_push_of_some _ (Heap.get?_push_of_some _ e)
  have cC := kp _ _ hC
  have own : ((h.push (PySem.W.kdv_tup [])).push (PySem.HandSPX.excO C h.objs.size)).get? (h.objs.size + 1) = some (PySem.HandSPX.excO C h.objs.size) := by heap_get
  have self : (Value.ref C :: bm).contains (.ref C) = true := by simp
  unfold isInstance
  repeat (first | with_reducible refine wpAny_loadPart_at own ?_ | (with_reducible refine wpAny_isSubtype_exc cC ?_; rw [self]) | wp_step)
  show wpAny _ _ (typeLookup (.ref C) _) _ _ _
  refine (hi.keeps kp).at (wpAny_holding (wpAny_bind (((hb (.ref (h.objs.size + 1))).keeps kp).at ?_)))
  refine wpAny_bind (wpAny_call (codeAny_mono hq fun r s' z => ?_))
  rcases r with e | (v | _ | _ | _) <;> first | exact z | exact z.elim | skip
  obtain ⟨rfl, z⟩ := z
  first
    | exact wpAny_pure (wpAny_pure z)
    | (wp_walk; exact z)
end
section
variable {X : Cx} {CX : CXT} {k : Nat} {fI C : Addr} {fd : FuncData} {ps ks : List Str} {sp : Sp} {x : Str} {p pos : Pos} {kws : List Keyword} {tk : TA} {g : List Value → List Value → List Value} {gV : List V → List V → List V}
/-- C(k = v, ..), an own exception, as a value: keywords alone -/
def tExcK (C : Addr) (m : Nat) (sp : Sp) (gV : List V → List V → List V) (tk : TA) : TE := fun σ H Q => tk σ H fun zs H1 => zs.length = m ∧ ∀ a, H1 a = none → sp (gV [.ref a] zs) (upd H1 a (exo a C none)) (fun v H2 => v = .non ∧ Q (.ref a) H2) (fun _ _ _ => False)
theorem pe_excK (T : OexC X.K C) (iC : PySem.W.findIn X.K (.ref C) "__init__" = some (some (.ref fI))) (tI : PySem.W.typeIn X.K (.ref fI) = some (.type "function"))
    (F1 : FnOk X.prog X.w X.K X.mg X.base CX k fI fd ps sp) (hr : Room (k + 1) X.A) (hb : KBn X.K fd ps 1 ks g gV) (hx : Passes CX X (fun _ _ _ => False)) (hg : Gl X x) (hm : X.mg x = some (.ref C)) (hkw : PK X kws tk)
    (hall : (backToKw pos (keywordEach kws X.env)).all (·.1.isSome) = true := by rfl) (hks : (backToKw pos (keywordEach kws X.env)).filterMap (·.1) = ks := by rfl) (hdb : (x == ("__debug__" : Str)) = false := by decide)
    (hpl : ((backTo pos (starEach [] X.env)).any (·.1) || (backToKw pos (keywordEach kws X.env)).any (·.1.isNone)) = false := by rfl) :
    PE X (.Call (.Name x p) [] kws pos) (tExcK C ks.length sp gV tk) := by
  refine ⟨fun pins s σ H Q I h => ?_⟩
  refine wpAny_Call_Name_kw (ld_glob I hg hm ?_ hdb)
  refine PySem.W.callWith_KW0 (h₀ := X.base) I.ok.mod.kin T.kC hall (thn (hkw.run pos pins s σ H _ I h) fun ws s1 ⟨zs, H1, I1, rz, lz, q1⟩ => ⟨I1.kIn, ?_⟩) hpl
  rw [hks]
  obtain ⟨nm, q, N, bs, bm, sn, sub, ab, col, dd, k0, k1, k2, k3, k5, hC, hbm⟩ := T.cls
  obtain ⟨hp, gs, dr, tk', os⟩ := s1
  have hq := q1 (hp.objs.size + 1) (I1.hok.fresh (Nat.le_succ _))
  have stays : ∀ b o, hp.get? b = some o → ((hp.push (PySem.W.kdv_tup [])).push (PySem.HandSPX.excO C hp.objs.size)).get? b = some o := fun b o e => Heap.get?_push_of_some _ (Heap.get?_push_of_some _ e)
  have mine : ((hp.push (PySem.W.kdv_tup [])).push (PySem.HandSPX.excO C hp.objs.size)).get? (hp.objs.size + 1) = some (PySem.HandSPX.excO C hp.objs.size) := by heap_get
  have I2 := I1.laid (t' := tk') (a := hp.objs.size + 1) (o := exo (hp.objs.size + 1) C none) stays (Nat.le_succ _) (exo_ok mine)
  have r2 := hb.rel (vs := [V.ref (hp.objs.size + 1)]) (us := [Value.ref (hp.objs.size + 1)]) (.cons rfl .nil) rz
  have lw : ws.length = ks.length := rz.length.symm.trans lz
  have cTy : (⟨hp, gs, dr, tk', os⟩ : Shared).TypeIs (.ref C) "type" := ⟨_, I1.kIn _ _ hC, rfl⟩
  have f1 := PySem.tc_lookup
  have f2 := PySem.tc_bind (.ref C)
  refine wpAny_call (codeAny_of_tree ?_)
  show wpAny _ _ (callAny (.ref C) ⟨[], ks.zip ws⟩) _ _ _
  have hC' := I1.kIn _ _ hC
  repeat (any_goals (first | assumption | with_reducible refine wpAny_loadPart_at hC' ?_ | wp_step))
  refine ⟨rfl, ?_⟩
  refine codeAny_call_builtin_at (Code.quiet_builtin _ (by decide +kernel)) PySem.entry_typeCall (kw_tc hC' (kw_call F.excBase_ValueError (fun Y => PySem.HandSPX.refsVE_contains Y bm hbm) hC' (PySem.W.looks_findIn I1.kIn iC) (fun self => PySem.W.bind_fn I1.kIn self tI) ?_))
  refine codeAny_mono (F1.run _ X.stack _ _ ⟨[Value.ref (hp.objs.size + 1)], ks.zip ws⟩ (g [Value.ref (hp.objs.size + 1)] ws) _ _ (fun _ _ _ => False) (hr.make C [] (ks.zip ws)) (I2.env0.make C [] (ks.zip ws)) (hb.to _ [Value.ref (hp.objs.size + 1)] ws I2.kIn rfl lw) r2 hq) fun r s' hq' => ?_
  cases r with
  | error er => exact hx pins σ _ _ er s' I2 hq'
  | ok fl =>
    cases fl with
    | ret u =>
      obtain ⟨v, H3, I3, rv, ev, q3⟩ := I2.after hq'
      subst ev
      exact ⟨rv, ⟨V.ref (hp.objs.size + 1), H3, I3, rfl, q3⟩⟩
    | next => exact False.elim hq'
    | brk => exact False.elim hq'
    | cont => exact False.elim hq'
end
/-- keywords of a def without defaults: one positional value (self), the others by name in the parameters' order -/
theorem kbn_self {K : PySem.W.Frag} {x qual : Str} {params : Arguments} {body : List Stmt} {scope : Scope} {f : Addr} {fd : FuncData} {ps ks : List Str} (F : FunD K x qual params body scope [] [] f fd)
    (h : ∀ (kV doc pm : Value) (an : Option Addr) (cdv ct : Value) (us ws : List Value), us.length = 1 → ws.length = ks.length → bindArgs (PySem.W.fnOf x qual params body scope .none kV doc pm an cdv ct) ⟨us, ks.zip ws⟩ = pure (ps.zip (us ++ ws))) :
    KBn K fd ps 1 ks (fun us ws => us ++ ws) (fun vs zs => vs ++ zs) := by
  obtain ⟨oc, od, dV, kV, doc, pm, an, cdv, ct, osl, rfl, lk, hcd, hD, hK⟩ := F.ex
  rcases hD with ⟨_, rfl⟩ | ⟨e, _⟩
  · exact ⟨fun s us ws X l1 l2 => .of_eq (h kV doc pm an cdv ct us ws l1 l2), fun r1 r2 => r1.append r2⟩
  · exact absurd rfl e
end Sl
/-! ## SlHead -/
set_option Elab.async false
set_option linter.all false
set_option maxRecDepth 100000
set_option maxHeartbeats 4000000
/-! a head's Hook: the defs of the top, facts by names, and any further looks at the written part (the statics of C within) -/
namespace Sl
open PySem PySem.Spec PyProof.Rows L2 He
def asS (g : Addr → Option Obj) (n : Nat) : List Addr := PySem.cStatics :: He.asD g n
abbrev AlS : Type := He.AlD × Bool
def obsS (fa : List Fa) (fn : List DefD) (ex : List (PySem.W.Frag → Bool)) (K : PySem.W.Frag) : AlS := (obsD fa fn K, ex.all fun e => e K)
def obsSG (n : Nat) (fa : List Fa) (fn : List DefD) (ex : List (PySem.W.Frag → Bool)) (g : Addr → Option Obj) : AlS := obsS fa fn ex (frG g (asS g n))
def valS (fn : List DefD) : AlS := (valD fn, true)
def SaysS (fa : List Fa) (fn : List DefD) (ex : List (PySem.W.Frag → Bool)) (K : PySem.W.Frag) : Prop := obsS fa fn ex K = valS fn
def hookS (n : Nat) (fa : List Fa) (fn : List DefD) (ex : List (PySem.W.Frag → Bool)) : PySem.W.Hook where
  α := AlS
  obs := fun s => obsSG n fa fn ex s.heap.get?
  val := fun _ => valS fn
  says := fun _ h => ∃ K : PySem.W.Frag, K.In h ∧ SaysS fa fn ex K
  of := fun _ _ e => ⟨_, frG_in, e⟩
  keeps := fun _ _ _ ⟨K, hK, c⟩ k => ⟨K, PySem.W.Frag.In.keeps hK k, c⟩
theorem obsSG_eq {n : Nat} {fa : List Fa} {fn : List DefD} {ex : List (PySem.W.Frag → Bool)} {g : Addr → Option Obj} {s : Shared} (h : ∀ a, g a = s.heap.get? a) : obsSG n fa fn ex g = (hookS n fa fn ex).obs s := by
  have e : g = s.heap.get? := funext h
  rw [e] <;> rfl
theorem SaysS.d {fa : List Fa} {fn : List DefD} {ex : List (PySem.W.Frag → Bool)} {K : PySem.W.Frag} (c : SaysS fa fn ex K) : SaysD fa fn K := congrArg (fun z : AlS => z.1) c
theorem SaysS.x {fa : List Fa} {fn : List DefD} {ex : List (PySem.W.Frag → Bool)} {K : PySem.W.Frag} (c : SaysS fa fn ex K) (i : Nat) {e : PySem.W.Frag → Bool} (h : ex[i]? = some e := by rfl) : e K = true := by
  have c1 : (ex.all fun e => e K) = true := congrArg (fun z : AlS => z.2) c
  exact List.all_eq_true.mp c1 e (List.mem_of_getElem? h)
/-! ### an own exception's class -/
def oexB (K : PySem.W.Frag) (C : Addr) : Bool := match K.lookup C with
  | some ⟨.type t, _, .cls cd, sl⟩ => decide (t = "type") && (match cd.mro, sl.toList with
    | .ref C' :: bm, [_, _, _, _, some (.builtin n), _] => decide (C' = C) && (decide (n = "ValueError.__new__") && (!cd.hasDel && (cd.hasDict && PySem.HandSPX.refsVE bm)))
    | _, _ => false)
  | _ => false
theorem oexB_ok {K : PySem.W.Frag} {C : Addr} (h : oexB K C = true) : ∃ nm q N bs bm sn sub ab col dd k0 k1 k2 k3 k5, K.lookup C = some (excClassObj nm q C N bs bm true sn sub ab col dd k0 k1 k2 k3 k5 "ValueError.__new__") ∧ PySem.HandSPX.refsVE bm = true := by
  unfold oexB at h
  split at h
  · rename_i t dd cd sl ho
    obtain ⟨h1, h2⟩ := ba h
    have e1 : t = "type" := of_decide_eq_true h1
    subst e1
    split at h2
    · rename_i C' bm k0 k1 k2 k3 n k5 hm hs
      obtain ⟨a1, h3⟩ := ba h2
      obtain ⟨a2, h4⟩ := ba h3
      obtain ⟨a3, h5⟩ := ba h4
      obtain ⟨a4, a5⟩ := ba h5
      have e2 : C' = C := of_decide_eq_true a1
      have e3 : n = "ValueError.__new__" := of_decide_eq_true a2
      subst e2 e3
      obtain ⟨nm, bs, mro, ns, qn, hdct, sn, sub, ab, col, hdel⟩ := cd
      have e4 : mro = .ref C' :: bm := hm
      have e5 : hdct = true := a4
      have e6 : hdel = false := by
        cases hdel with
        | false => rfl
        | true => cases a3
      have e7 : sl = #[k0, k1, k2, k3, some (.builtin "ValueError.__new__"), k5] := by
        rw [← Array.toArray_toList (xs := sl), hs]
      subst e4 e5 e6 e7
      exact ⟨_, _, _, _, _, _, _, _, _, _, _, _, _, _, _, ho, a5⟩
    · cases h2
  · cases h
def excB (K : PySem.W.Frag) (C : Addr) : Bool := oexB K C && (eqO (PySem.W.findIn K (.ref C) "__setattr__") (some (some (.builtin "object.__setattr__"))) && (decide (PySem.W.subIn K (.ref C) (.type "BaseException") = some true) && (decide (PySem.W.typeIn K (.ref C) = some (.type "type")) && PySem.W.keepIn K (.ref C))))
theorem excB_ok {K : PySem.W.Frag} {C : Addr} (h : excB K C = true) : OexC K C := by
  obtain ⟨a1, h⟩ := ba h
  obtain ⟨a2, h⟩ := ba h
  obtain ⟨a3, h⟩ := ba h
  obtain ⟨a4, a5⟩ := ba h
  exact ⟨oexB_ok a1, eqO_ok a2, of_decide_eq_true a3, of_decide_eq_true a4, a5⟩
def exrB (K : PySem.W.Frag) (C : Addr) : Bool := eqO (PySem.W.findIn K (.ref C) "__getattribute__") (some (some (.builtin "BaseException.__getattribute__"))) && (eqO (PySem.W.findIn K (.ref C) "__getattr__") (some none) && (decide (PySem.W.subIn K (.ref C) (.type "BaseException") = some true) && (PySem.W.hasDictIn K C &&
  (eqO (PySem.W.findIn K (.ref C) "__class__") (some (some (.builtin "object.__class__"))) && (eqO (PySem.W.specialIn K (.builtin "object.__class__") "__get__") (some (some (.builtin "getset_descriptor.__get__"))) && (decide (PySem.W.takesIn K (.builtin "object.__class__") = some true) && decide (PySem.W.mroIn K C (.type "object") = some true)))))))
theorem exrB_ok {K : PySem.W.Frag} {C : Addr} (h : exrB K C = true) : ExR K C := by
  obtain ⟨a1, h⟩ := ba h
  obtain ⟨a2, h⟩ := ba h
  obtain ⟨a3, h⟩ := ba h
  obtain ⟨a4, h⟩ := ba h
  obtain ⟨a5, h⟩ := ba h
  obtain ⟨a6, h⟩ := ba h
  obtain ⟨a7, a8⟩ := ba h
  exact ⟨eqO_ok a1, eqO_ok a2, of_decide_eq_true a3, a4, eqO_ok a5, eqO_ok a6, of_decide_eq_true a7, of_decide_eq_true a8⟩
def iniB (K : PySem.W.Frag) (C : Addr) : Bool := eqO (PySem.W.findIn K (.ref C) "__init__") (some (some (.ref (ma K C "__init__")))) && decide (PySem.W.typeIn K (.ref (ma K C "__init__")) = some (.type "function"))
theorem iniB_ok {K : PySem.W.Frag} {C : Addr} (h : iniB K C = true) : PySem.W.findIn K (.ref C) "__init__" = some (some (.ref (ma K C "__init__"))) ∧ PySem.W.typeIn K (.ref (ma K C "__init__")) = some (.type "function") := by
  obtain ⟨a1, a2⟩ := ba h
  exact ⟨eqO_ok a1, of_decide_eq_true a2⟩
/-- an own error x without a field, with the field fld -/
def err0B (x : Str) (K : PySem.W.Frag) : Bool := excB K (ga K x) && (exrB K (ga K x) && iniB K (ga K x))
def errB (x fld : Str) (K : PySem.W.Frag) : Bool := err0B x K && eqO (PySem.W.findIn K (.ref (ga K x)) fld) (some none)
/-- a value read off a class -/
def clvB (K : PySem.W.Frag) (c : Value) (m : Str) (v : Value) : Bool := match PySem.W.findCls K c (.type "type") m with
  | some (.val u) => decide (u = v)
  | _ => false
theorem clvB_ok {K : PySem.W.Frag} {c : Value} {m : Str} {v : Value} (h : clvB K c m v = true) : PySem.W.findCls K c (.type "type") m = some (.val v) := by
  unfold clvB at h
  split at h
  · rename_i u e
    rw [e, of_decide_eq_true h]
  · cases h
def crdB (K : PySem.W.Frag) (C : Addr) : Bool := PySem.W.readsIn K C (.type "type") && eqO (PySem.W.specialIn K (.ref C) "__getattribute__") (some (some (.builtin "type.__getattribute__")))
theorem crdB_ok {K : PySem.W.Frag} {C : Addr} (h : crdB K C = true) : ClX.CRead K C (.type "type") := by
  obtain ⟨a1, a2⟩ := ba h
  exact ⟨a1, eqO_ok a2⟩
/-- each isinstance of the one kind, by the other -/
def kitB (as bs : List Str) (b : Nat → Nat → Bool) (K : PySem.W.Frag) : Bool := (as.zipIdx).all fun p => (bs.zipIdx).all fun q => decide (PySem.W.kitOne K (.ref (ga K p.1)) (.ref (ga K q.1)) = some (b p.2 q.2))
theorem kitB_ok {as bs : List Str} {b : Nat → Nat → Bool} {K : PySem.W.Frag} (h : kitB as bs b K = true) {i j : Nat} {x y : Str} (hi : as[i]? = some x) (hj : bs[j]? = some y) : PySem.W.kitOne K (.ref (ga K x)) (.ref (ga K y)) = some (b i j) := by
  have h1 := List.all_eq_true.mp h (x, i) (by rw [List.mk_mem_zipIdx_iff_getElem?]; exact hi)
  have h2 := List.all_eq_true.mp h1 (y, j) (by rw [List.mk_mem_zipIdx_iff_getElem?]; exact hj)
  exact of_decide_eq_true h2
def kitVB (as : List Str) (T : String) (b : Bool) (K : PySem.W.Frag) : Bool := as.all fun x => decide (PySem.W.kitOne K (.ref (ga K x)) (.type T) = some b)
theorem kitVB_ok {as : List Str} {T : String} {b : Bool} {K : PySem.W.Frag} (h : kitVB as T b K = true) {x : Str} (hx : x ∈ as) : PySem.W.kitOne K (.ref (ga K x)) (.type T) = some b := of_decide_eq_true (List.all_eq_true.mp h x hx)
end Sl
/-! ## SlMeth -/
set_option Elab.async false
set_option linter.all false
set_option maxRecDepth 100000
set_option maxHeartbeats 4000000
namespace Sl
open PySem PySem.Spec PyProof.Rows L2
/-- a method of an own class that lets no exception out -/
structure CalM (P : Program) (w : World) (K : PySem.W.Frag) (mg : Str → Option Value) (base : Heap) (C : Addr) (k : Nat) (m : Str) (sp : Sp) : Prop where
  ex : ∃ (f : Addr) (fd : FuncData) (ps : List Str), Meth K C m f ∧ FnOk P w K mg base CX0 k f fd ps sp ∧ Binds K fd ps []
/-- a property of an own class -/
structure CalP (P : Program) (w : World) (K : PySem.W.Frag) (mg : Str → Option Value) (base : Heap) (C : Addr) (k : Nat) (m : Str) (sp : Sp) : Prop where
  ex : ∃ (p g : Addr) (fd : FuncData) (ps : List Str), PropOf K C m p g ∧ FnOk P w K mg base CX0 k g fd ps sp ∧ Binds K fd ps []
/-- an operator of an own class -/
structure OwnF (P : Program) (w : World) (K : PySem.W.Frag) (mg : Str → Option Value) (base : Heap) (C : Addr) (k : Nat) (m : Str) (sp : Sp) : Prop where
  ex : ∃ (f : Addr) (fd : FuncData) (ps : List Str), PySem.W.findIn K (.ref C) m = some (some (.ref f)) ∧ PySem.W.isFn K (.ref f) = true ∧ FnOk P w K mg base CX0 k f fd ps sp ∧ Binds K fd ps []
section
variable {X : Cx} {C : Addr} {k : Nat} {m : Str} {sp : Sp} {o e : Expr} {ta te : TE} {apos pos : Pos}
theorem pe_me0 (h : CalM X.prog X.w X.K X.mg X.base C k m sp) (c : Cls X.K C) (hr : Room k X.A) (he : PE X o ta)
    (ht : ∃ pl : Sem Bool, eval (.Call (.Attribute o m apos) [] [] pos) X.env = (do
      let ov ← eval o X.env
      standAt apos.atName
      let (f, first) ← holding [ov] (getMethod ov m pl)
      callWith pos f first (backTo pos (starEach [] X.env)) (backToKw pos (keywordEach [] X.env))) := by exact ⟨_, rfl⟩) : PE X (.Call (.Attribute o m apos) [] [] pos) (tMeth C m sp [] E0 ta tNil) := by
  obtain ⟨f, fd, ps, M, F, b⟩ := h.ex
  obtain ⟨pl, ht⟩ := ht
  exact pe_meth0 he c M F hr b .nil pass0 ht
theorem pe_me1 (h : CalM X.prog X.w X.K X.mg X.base C k m sp) (c : Cls X.K C) (hr : Room k X.A) (he : PE X o ta) (ha : PE X e te)
    (hst : starEach [e] X.env = (false, eval e X.env) :: starEach [] X.env := by rfl) (hpl : (backTo pos (starEach [] X.env)).any (·.1) = false := by rfl)
    (ht : ∃ pl : Sem Bool, eval (.Call (.Attribute o m apos) [e] [] pos) X.env = (do
      let ov ← eval o X.env
      standAt apos.atName
      let (f, first) ← holding [ov] (getMethod ov m pl)
      callWith pos f first (backTo pos (starEach [e] X.env)) (backToKw pos (keywordEach [] X.env))) := by exact ⟨_, rfl⟩) : PE X (.Call (.Attribute o m apos) [e] [] pos) (tMeth C m sp [] E0 ta (tCons te tNil)) := by
  obtain ⟨f, fd, ps, M, F, b⟩ := h.ex
  obtain ⟨pl, ht⟩ := ht
  exact pe_meth he c M F hr b .nil pass0 (pa_cons ha pa_nil hst) hst hpl ht
theorem pe_pr (h : CalP X.prog X.w X.K X.mg X.base C k m sp) (c : Cls X.K C) (hr : Room (k + 1) X.A) (he : PE X o ta) (hab : attributeBase o m X.env (eval o X.env) = eval o X.env := by rfl) : PE X (.Attribute o m pos) (tProp C sp [] E0 ta) := by
  obtain ⟨p, g, fd, ps, M, F, b⟩ := h.ex
  exact pe_prop he c M F hr b .nil pass0 hab
end
end Sl
/-! ## SlProp -/
set_option Elab.async false
set_option linter.all false
set_option maxRecDepth 100000
set_option maxHeartbeats 4000000
/-! a head's Hook as SlHead's, and the getters of properties -/
namespace Sl
open PySem PySem.Spec PyProof.Rows L2 He
def gtr (x m : Str) (K : PySem.W.Frag) : Addr := match PySem.W.recIn K (ma K (ga K x) m) "property" with
  | some (.ref g :: _) => g
  | _ => 0
def propB (x m : Str) (K : PySem.W.Frag) : Bool := eqO (PySem.W.findIn K (.ref (ga K x)) m) (some (some (.ref (ma K (ga K x) m)))) && (eqO (PySem.W.specialIn K (.ref (ma K (ga K x) m)) "__get__") (some (some (.builtin "property.__get__"))) && (decide (PySem.W.takesIn K (.ref (ma K (ga K x) m)) = some true) &&
  (match PySem.W.recIn K (ma K (ga K x) m) "property" with
    | some (.ref _ :: _) => true
    | _ => false)))
theorem propB_ok {x m : Str} {K : PySem.W.Frag} (h : propB x m K = true) : PropOf K (ga K x) m (ma K (ga K x) m) (gtr x m K) := by
  obtain ⟨a1, h⟩ := ba h
  obtain ⟨a2, h⟩ := ba h
  obtain ⟨a3, a4⟩ := ba h
  refine ⟨eqO_ok a1, eqO_ok a2, of_decide_eq_true a3, ?_⟩
  unfold gtr
  cases e : PySem.W.recIn K (ma K (ga K x) m) "property" with
  | none => rw [e] at a4; cases a4
  | some vs =>
    rw [e] at a4
    cases vs with
    | nil => cases a4
    | cons v r =>
      cases v with
      | ref g => exact ⟨r, rfl⟩
      | _ => cases a4
/-- a function at an address -/
def fnAt (K : PySem.W.Frag) (a : Addr) : FnW := match K.lookup a with
  | some ⟨_, _, .func fd, _⟩ => some (fd.name, fd.qualname, fd.params, fd.body, fd.scope, fd.globals, fd.closure, fd.builtins)
  | _ => none
def okAt (K : PySem.W.Frag) (a : Addr) (d : DefD) : Bool := PySem.W.keepIn K (.ref a) && (match K.lookup a with
  | some ⟨_, _, .func fd, _⟩ => PySem.W.codeIn K fd.code d.qual && (dflB K fd.defaults (d.dvs K) && kwdB K fd.kwdefaults (d.kws K))
  | _ => false)
theorem funD_at {K : PySem.W.Frag} {a : Addr} {d : DefD} (e : fnAt K a = d.val) (c : okAt K a d = true) : ∃ fd, FunD K d.name d.qual d.params d.body d.scope (d.dvs K) (d.kws K) a fd := by
  obtain ⟨kp, c2⟩ := ba c
  unfold fnAt at e
  cases q : K.lookup a with
  | none => rw [q] at c2; cases c2
  | some o =>
    obtain ⟨oc, od, dt, osl⟩ := o
    rw [q] at c2 e
    cases dt with
    | func fd =>
      obtain ⟨m1, m2, m3, m4, m5, m6, m7, m8, m9, m10, m11, m12, m13, m14, m15⟩ := fd
      have e2 : (some (m1, m2, m3, m4, m5, m6, m7, m15) : FnW) = some (d.name, d.qual, d.params, .stmts d.body, d.scope, mainGlobals, [], builtinsNs) := e
      simp only [Option.some.injEq, Prod.mk.injEq] at e2
      obtain ⟨h1, h2, h3, h4, h5, h6, h7, h8⟩ := e2
      subst h1 h2 h3 h4 h5 h6 h7 h8
      obtain ⟨k1, k2⟩ := ba (show (PySem.W.codeIn K m13 d.qual && (dflB K m8 (d.dvs K) && kwdB K m9 (d.kws K))) = true from c2)
      obtain ⟨k3, k4⟩ := ba k2
      exact ⟨_, ⟨oc, od, m8, m9, m10, m11, m12, m13, m14, osl, rfl, q, k1, dflB_ok k3, kwdB_ok k4⟩, kp⟩
    | _ => cases c2
abbrev PrD : Type := (PySem.W.Frag → Addr) × DefD
abbrev AlT : Type := AlS × Bool × List FnW
def obsT (fa : List Fa) (fn : List DefD) (pr : List PrD) (ex : List (PySem.W.Frag → Bool)) (K : PySem.W.Frag) : AlT := (obsS fa fn ex K, pr.all fun q => okAt K (q.1 K) q.2, pr.map fun q => fnAt K (q.1 K))
def obsTG (n : Nat) (fa : List Fa) (fn : List DefD) (pr : List PrD) (ex : List (PySem.W.Frag → Bool)) (g : Addr → Option Obj) : AlT := obsT fa fn pr ex (frG g (asS g n))
def valT (fn : List DefD) (pr : List PrD) : AlT := (valS fn, true, pr.map fun q => q.2.val)
def SaysT (fa : List Fa) (fn : List DefD) (pr : List PrD) (ex : List (PySem.W.Frag → Bool)) (K : PySem.W.Frag) : Prop := obsT fa fn pr ex K = valT fn pr
def hookT (n : Nat) (fa : List Fa) (fn : List DefD) (pr : List PrD) (ex : List (PySem.W.Frag → Bool)) : PySem.W.Hook where
  α := AlT
  obs := fun s => obsTG n fa fn pr ex s.heap.get?
  val := fun _ => valT fn pr
  says := fun _ h => ∃ K : PySem.W.Frag, K.In h ∧ SaysT fa fn pr ex K
  of := fun _ _ e => ⟨_, frG_in, e⟩
  keeps := fun _ _ _ ⟨K, hK, c⟩ k => ⟨K, PySem.W.Frag.In.keeps hK k, c⟩
theorem obsTG_eq {n : Nat} {fa : List Fa} {fn : List DefD} {pr : List PrD} {ex : List (PySem.W.Frag → Bool)} {g : Addr → Option Obj} {s : Shared} (h : ∀ a, g a = s.heap.get? a) : obsTG n fa fn pr ex g = (hookT n fa fn pr ex).obs s := by
  have e : g = s.heap.get? := funext h
  rw [e] <;> rfl
theorem SaysT.s {fa : List Fa} {fn : List DefD} {pr : List PrD} {ex : List (PySem.W.Frag → Bool)} {K : PySem.W.Frag} (c : SaysT fa fn pr ex K) : SaysS fa fn ex K := congrArg (fun z : AlT => z.1) c
theorem SaysT.p {fa : List Fa} {fn : List DefD} {pr : List PrD} {ex : List (PySem.W.Frag → Bool)} {K : PySem.W.Frag} (c : SaysT fa fn pr ex K) (i : Nat) {q : PrD} (h : pr[i]? = some q := by rfl) : ∃ fd, FunD K q.2.name q.2.qual q.2.params q.2.body q.2.scope (q.2.dvs K) (q.2.kws K) (q.1 K) fd := by
  have c1 : (pr.all fun q => okAt K (q.1 K) q.2) = true := congrArg (fun z : AlT => z.2.1) c
  have e : (pr.map fun q => fnAt K (q.1 K)) = pr.map fun q => q.2.val := congrArg (fun z : AlT => z.2.2) c
  have e2 : (pr.map fun q => fnAt K (q.1 K))[i]? = (pr.map fun q => q.2.val)[i]? := by rw [e]
  rw [List.getElem?_map, List.getElem?_map, h] at e2
  exact funD_at (Option.some.inj e2) (List.all_eq_true.mp c1 q (List.mem_of_getElem? h))
end Sl
/-! ## OtyD -/
set_option Elab.async false
set_option linter.all false
namespace Lw
open PySem PySem.Spec PyProof.Rows L2 Sl
def mroB (K : PySem.W.Frag) (C : Addr) : Bool := (match PySem.W.clsIn K C with | some cd => decide (cd.mro = [Value.ref C, .type "object"]) | none => false) && decide (PySem.W.typeIn K (.ref C) = some (.type "type"))
end Lw
/-! ## Hk -/
set_option Elab.async false
set_option linter.all false
set_option maxRecDepth 100000
set_option maxHeartbeats 0
namespace Lw
open PySem PySem.Spec PyProof.Rows L2 Sl
def dF (x : Str) (st : Stmt) : He.DefD := ⟨(x, none), x, x, defArgs st, defBody st, defScope st, [], []⟩
def dM (c m q : Str) (st : Stmt) (dfl : List He.Dv) : He.DefD := ⟨(c, some m), m, q, defArgs st, defBody st, defScope st, dfl, []⟩
def fn : List He.DefD := [dF "shown" s_shown,
  dF "is_name" s_is_name,
  dF "is_integer" s_is_integer,
  dF "is_list" s_is_list,
  dF "is_names" s_is_names,
  dF "are_different" s_are_different,
  dF "pairs_of" s_pairs_of,
  dF "is_of_lot" s_is_of_lot,
  dF "name_in" s_name_in,
  dF "is_word" s_is_word,
  dF "checked_parts" s_checked_parts,
  dF "is_turn" s_is_turn,
  dF "is_brought" s_is_brought,
  dF "checked_turns" s_checked_turns,
  dF "checked_brings" s_checked_brings,
  dF "is_bound" s_is_bound,
  dF "are_words" s_are_words,
  dF "is_test" s_is_test,
  dF "is_verb" s_is_verb,
  dF "is_deed" s_is_deed,
  dF "kept_test" s_kept_test,
  dF "kept_deed" s_kept_deed,
  dF "are_tests" s_are_tests,
  dF "are_deeds" s_are_deeds,
  dF "_law_source" s_l_source,
  dF "_law_draw" s_l_draw,
  dF "_law_pick" s_l_pick,
  dF "_law_order" s_l_order,
  dF "_law_subset" s_l_subset,
  dF "_law_name" s_l_name,
  dF "_law_names" s_l_names,
  dF "_law_some" s_l_some,
  dF "_law_plan" s_l_plan,
  dF "_law_lots" s_l_lots,
  dF "_law_sum" s_l_sum,
  dF "_law_deed" s_l_deed,
  dF "_law_hook" s_l_hook,
  dF "_law_made_deed" s_l_made_deed,
  dF "_law_tried" s_l_tried,
  dF "_law_is_name" s_l_is_name,
  dF "_law_are_names" s_l_are_names,
  dF "_law_is_word" s_l_is_word,
  dF "_law_is_bound" s_l_is_bound,
  dF "_law_is_test" s_l_is_test,
  dF "_law_is_deed" s_l_is_deed,
  dF "_law_due" s_l_due,
  dF "_law_odd" s_l_odd,
  dF "law" s_law,
  dM "LotError" "__init__" "LotError.__init__" s_LotError___init__ [],
  dM "BadTrigger" "__init__" "BadTrigger.__init__" s_BadTrigger___init__ [],
  dM "Form" "__init__" "Form.__init__" s_Form___init__ [.int 0],
  dM "Statement" "__init__" "Statement.__init__" s_Statement___init__ [.adr (He.dflAt ("Statement", some "__init__") 0)],
  dM "Trigger" "__init__" "Trigger.__init__" s_Trigger___init__ []]
def pr : List PrD := [(gtr "Trigger" "label", dM "Trigger" "label" "Trigger.label" s_Trigger_label [])]
def fa : List He.Fa := [.glo "shown", .glo "is_name", .glo "is_integer", .glo "is_list", .glo "is_names", .glo "are_different", .glo "pairs_of", .glo "is_of_lot", .glo "name_in", .glo "is_word", .glo "checked_parts", .glo "is_turn", .glo "is_brought", .glo "checked_turns", .glo "checked_brings", .glo "is_bound", .glo "are_words", .glo "is_test", .glo "is_verb", .glo "is_deed", .glo "kept_test", .glo "kept_deed", .glo "are_tests", .glo "are_deeds", .glo "_law_source", .glo "_law_draw", .glo "_law_pick", .glo "_law_order", .glo "_law_subset", .glo "_law_name", .glo "_law_names", .glo "_law_some", .glo "_law_plan", .glo "_law_lots", .glo "_law_sum", .glo "_law_deed", .glo "_law_hook", .glo "_law_made_deed", .glo "_law_tried", .glo "_law_is_name", .glo "_law_are_names", .glo "_law_is_word", .glo "_law_is_bound", .glo "_law_is_test", .glo "_law_is_deed", .glo "_law_due", .glo "_law_odd", .glo "law", .glo "LotError", .glo "BadTrigger", .glo "Form", .glo "Statement", .glo "Trigger", .free "isinstance", .free "str", .free "int", .free "bool", .free "list", .free "tuple", .free "dict", .free "len", .free "all", .free "range", .free "sorted", .free "set", .free "enumerate", .free "zip", .free "ValueError", .int "MOST_BITS" 1000, .str "LETTERS" "abcdefghijklmnopqrstuvwxyz", .int "MOST_LETTERS" 8, .str "OLD" "old.", .str "NEW" "new.", .str "BETWEEN" " + ", .int "MOST_TESTS" 3, .int "MOST_DEEDS" 4, .int "GREATEST_BOUND" 3, .int "MOST_KINDS" 3, .int "MOST_BROUGHT" 9, .str "NOTHING" "nothing", .str "ADD" "add", .str "SET" "set", .str "REFUSE" "refuse", .cls "Form", .mkr "Form", .noat "Form" "_number", .noat "Form" "_parts", .cls "Statement", .mkr "Statement", .noat "Statement" "_brings", .noat "Statement" "_turns", .cls "Trigger", .mkr "Trigger", .noat "Trigger" "_deeds", .noat "Trigger" "_label", .noat "Trigger" "_news", .noat "Trigger" "_olds", .noat "Trigger" "_tests"]
def Cs3 (K : PySem.W.Frag) : List Addr := [He.ga K "Form", He.ga K "Statement"]
def exG (K : PySem.W.Frag) : Bool := He.eqO (PySem.W.specialIn K (.builtin "object.__class__") "__get__") (some (some (.builtin "getset_descriptor.__get__"))) && decide (PySem.W.takesIn K (.builtin "object.__class__") = some true)
def exC (K : PySem.W.Frag) : Bool := He.eqO (PySem.W.findIn K (.ref (He.ga K "Form")) "__class__") (some (some (.builtin "object.__class__"))) && He.eqO (PySem.W.findIn K (.ref (He.ga K "Statement")) "__class__") (some (some (.builtin "object.__class__")))
def exM (K : PySem.W.Frag) : Bool := mroB K (He.ga K "Form") && mroB K (He.ga K "Statement")
def exX (K : PySem.W.Frag) : Bool := decide (PySem.W.exmOne K (.ref (He.ga K "BadTrigger")) (.ref (He.ga K "BadTrigger")) = some true)
def ex : List (PySem.W.Frag → Bool) := [exG, exC, exM, exX, errB "BadTrigger" "place", fun K => crdB K (He.ga K "LotError"), fun K => clvB K (.ref (He.ga K "LotError")) "__init__" (.ref (He.ma K (He.ga K "LotError") "__init__")), fun K => clvB K (.type "ValueError") "__init__" (.builtin "ValueError.__init__"), propB "Trigger" "label"]
abbrev R : PySem.W.OpenRow := PySem.W.OpenLaw.row PySem.Challenge.rw_statementlots_k10_bad_triggers
abbrev hk : PySem.W.Hook := hookT 6 fa fn pr ex
def ob (s : PySem.W.SharedT) : AlT := obsTG 6 fa fn pr ex (HandSHeadRun.getT s)
theorem ob_eq (s : PySem.W.SharedT) : ob s = hk.obs s.abs := obsTG_eq (HandSHeadRun.getT_eq s)
abbrev loose : List Str := [("_wall" : Str), ("MOST_BITS" : Str), ("shown" : Str), ("LotError" : Str), ("BadStatement" : Str), ("BadForm" : Str), ("BadNumber" : Str), ("BadTrigger" : Str), ("Overlap" : Str), ("figures_of" : Str), ("LETTERS" : Str), ("MOST_LETTERS" : Str), ("is_name" : Str), ("is_integer" : Str), ("is_list" : Str), ("is_names" : Str), ("are_different" : Str), ("pairs_of" : Str), ("sums" : Str), ("OLD" : Str), ("NEW" : Str), ("is_of_lot" : Str), ("name_in" : Str), ("is_word" : Str), ("BETWEEN" : Str), ("checked_parts" : Str), ("Form" : Str), ("MOST_TESTS" : Str), ("MOST_DEEDS" : Str), ("GREATEST_BOUND" : Str), ("MOST_KINDS" : Str), ("MOST_BROUGHT" : Str), ("NOTHING" : Str), ("is_turn" : Str), ("is_brought" : Str), ("checked_turns" : Str), ("checked_brings" : Str), ("Statement" : Str), ("ADD" : Str), ("SET" : Str), ("REFUSE" : Str), ("is_bound" : Str), ("are_words" : Str), ("is_test" : Str), ("is_verb" : Str), ("is_deed" : Str), ("kept_test" : Str), ("kept_deed" : Str), ("are_tests" : Str), ("are_deeds" : Str), ("Trigger" : Str), ("_law_source" : Str), ("_law_draw" : Str), ("_law_pick" : Str), ("_law_order" : Str), ("_law_subset" : Str), ("_law_name" : Str), ("_law_names" : Str), ("_law_some" : Str), ("_law_plan" : Str), ("_law_lots" : Str), ("_law_sum" : Str), ("_law_deed" : Str), ("_law_hook" : Str), ("_law_made_deed" : Str), ("_law_tried" : Str), ("_law_is_name" : Str), ("_law_are_names" : Str), ("_law_is_word" : Str), ("_law_is_bound" : Str), ("_law_is_test" : Str), ("_law_is_deed" : Str), ("_law_due" : Str), ("_law_odd" : Str)]
end Lw
/-! ## Hr1 -/
set_option Elab.async false
set_option linter.all false
set_option maxRecDepth 100000
set_option maxHeartbeats 0
namespace Lw
open PySem PySem.Spec PyProof.Rows L2 Sl
theorem run1 (w : World) (os : OsState) : (HandSHeadRun.endF (HandSHeadRun.stepQ (HandSHeadRun.denQ HandSHeadRun.tabQ) R.prog w) 9000 R.prog w os).map (fun s => HandSHeadRun.looksF R.prog (PySem.W.boot_heap w.params) s.abs) = some true := by kernel_rfl
end Lw
/-! ## Hr2 -/
set_option Elab.async false
set_option linter.all false
set_option maxRecDepth 100000
set_option maxHeartbeats 0
namespace Lw
open PySem PySem.Spec PyProof.Rows L2 Sl
theorem run2 (w : World) (os : OsState) : (HandSHeadRun.endF (HandSHeadRun.stepQ (HandSHeadRun.denQ HandSHeadRun.tabQ) R.prog w) 9000 R.prog w os).map (fun s => HandSHeadRun.seenQ (PySem.W.view R.prog [83]) loose (PySem.importedModules R.prog.main.body) (fun s => PySem.W.xlAt (PySem.W.view R.prog [83]) [] s && PySem.W.recOk R.toRowW.records s) s.abs) = some (PySem.W.openGood (PySem.W.view R.prog [83]) loose) := by kernel_rfl
end Lw
/-! ## Hr3 -/
set_option Elab.async false
set_option linter.all false
set_option maxRecDepth 100000
set_option maxHeartbeats 0
namespace Lw
open PySem PySem.Spec PyProof.Rows L2 Sl
theorem run3 (w : World) (os : OsState) : (HandSHeadRun.endF (HandSHeadRun.stepQ (HandSHeadRun.denQ HandSHeadRun.tabQ) R.prog w) 9000 R.prog w os).map (fun s => obsTG 6 fa fn pr [] (HandSHeadRun.getT s)) = some (valT fn pr) := by kernel_rfl
end Lw
/-! ## Hr4 -/
set_option Elab.async false
set_option linter.all false
set_option maxRecDepth 100000
set_option maxHeartbeats 0
namespace Lw
open PySem PySem.Spec PyProof.Rows L2 Sl
theorem run4 (w : World) (os : OsState) : (HandSHeadRun.endF (HandSHeadRun.stepQ (HandSHeadRun.denQ HandSHeadRun.tabQ) R.prog w) 9000 R.prog w os).map (fun s => ex.all fun e => e (He.frG (HandSHeadRun.getT s) (asS (HandSHeadRun.getT s) 6))) = some true := by kernel_rfl
end Lw
/-! ## HrN -/
set_option Elab.async false
set_option linter.all false
set_option maxRecDepth 100000
set_option maxHeartbeats 0
namespace Lw
open PySem PySem.Spec PyProof.Rows L2 Sl
theorem run (w : World) : HandSHeadRun.RunEq R (PySem.W.view R.prog [83]) hk ob 9000 loose w := by
  intro os
  have a := run1 w os
  have b := run2 w os
  have c := run3 w os
  have d := run4 w os
  generalize (HandSHeadRun.endF (HandSHeadRun.stepQ (HandSHeadRun.denQ HandSHeadRun.tabQ) R.prog w) 9000 R.prog w os) = z at a b c d
  cases z with
  | none => cases a
  | some s =>
    have a := Option.some.inj a
    have b := Option.some.inj b
    have c := Option.some.inj c
    have d := Option.some.inj d
    show some (HandSHeadRun.looksF R.prog (PySem.W.boot_heap w.params) s.abs, _, ob s) = _
    have e : ob s = valT fn pr := by
      rw [← c]
      show ((He.obsD fa fn (He.frG (HandSHeadRun.getT s) (asS (HandSHeadRun.getT s) 6)), ex.all fun e => e (He.frG (HandSHeadRun.getT s) (asS (HandSHeadRun.getT s) 6))), _, _) = _
      rw [show (ex.all fun e => e (He.frG (HandSHeadRun.getT s) (asS (HandSHeadRun.getT s) 6))) = true from d]
      rfl
    rw [e]
    rw [show HandSHeadRun.looksF R.prog (PySem.W.boot_heap w.params) s.abs = true from a]
    congr 3
end Lw
/-! ## Tr1 -/
set_option Elab.async false
set_option linter.all false
set_option maxRecDepth 100000
set_option maxHeartbeats 4000000
/-! Tr1: values as trees, what stands where, the frame; own work. -/
namespace Tr
open PySem PySem.Spec PyProof.Rows L2 Sl

/-- a value as a tree: data, own objects by their class's address and attributes, the source of draws -/
inductive T where
  | non | bl (b : Bool) | int (i : Int) | str (s : Str)
  | lst (xs : List T) | tup (xs : List T) | dic (kvs : List (Str × T)) | obj (C : Addr) (fs : List (Str × T)) | src

mutual
/-- v stands for a tree over H -/
inductive R (K : PySem.W.Frag) (p : Option Addr) (H : Hp) : T → V → Prop
  | non : R K p H .non .non
  | bl (b : Bool) : R K p H (.bl b) (.bl b)
  | int (i : Int) : R K p H (.int i) (.int i)
  | str (x : Str) : R K p H (.str x) (.str x)
  | lst {a : Addr} {vs : List V} {xs : List T} : H a = some (.lst vs) → Rs K p H xs vs → R K p H (.lst xs) (.ref a)
  | tup {a : Addr} {vs : List V} {xs : List T} : SqT K H a vs → Rs K p H xs vs → R K p H (.tup xs) (.ref a)
  | dic {a : Addr} {ws : List (Key × V)} {kvs : List (Str × T)} : H a = some (.dK ws) → Rk K p H kvs ws → R K p H (.dic kvs) (.ref a)
  | obj {a C dx : Addr} {ws : List (Str × V)} {fs : List (Str × T)} : H a = some (.ins C dx ws) → Rf K p H fs ws → R K p H (.obj C fs) (.ref a)
  | src {a : Addr} : p = some a → R K p H .src (.ref a)
inductive Rs (K : PySem.W.Frag) (p : Option Addr) (H : Hp) : List T → List V → Prop
  | nil : Rs K p H [] []
  | cons {t : T} {v : V} {ts : List T} {vs : List V} : R K p H t v → Rs K p H ts vs → Rs K p H (t :: ts) (v :: vs)
inductive Rk (K : PySem.W.Frag) (p : Option Addr) (H : Hp) : List (Str × T) → List (Key × V) → Prop
  | nil : Rk K p H [] []
  | cons {x : Str} {t : T} {v : V} {ts : List (Str × T)} {vs : List (Key × V)} : R K p H t v → Rk K p H ts vs → Rk K p H ((x, t) :: ts) ((.inr x, v) :: vs)
inductive Rf (K : PySem.W.Frag) (p : Option Addr) (H : Hp) : List (Str × T) → List (Str × V) → Prop
  | nil {ws : List (Str × V)} : Rf K p H [] ws
  | cons {x : Str} {t : T} {v : V} {ts : List (Str × T)} {vs : List (Str × V)} : R K p H t v → Rf K p H ts vs → Rf K p H ((x, t) :: ts) ((x, v) :: vs)
end

theorem sqt_same {K : PySem.W.Frag} {H H' : Hp} {a : Addr} {xs : List V} (s : Same H H') (h : SqT K H a xs) : SqT K H' a xs := by
  rcases h with (h | ⟨o, h⟩) | h
  · exact .inl (.inl (s _ _ h))
  · exact .inl (.inr ⟨o, s _ _ h⟩)
  · exact .inr h
section
variable {K : PySem.W.Frag} {p : Option Addr} {H H' : Hp}
mutual
theorem R.mono (s : Same H H') : ∀ {t : T} {v : V}, R K p H t v → R K p H' t v
  | _, _, .non => .non
  | _, _, .bl b => .bl b
  | _, _, .int i => .int i
  | _, _, .str x => .str x
  | _, _, .lst h r => .lst (s _ _ h) (Rs.mono s r)
  | _, _, .tup h r => .tup (sqt_same s h) (Rs.mono s r)
  | _, _, .dic h r => .dic (s _ _ h) (Rk.mono s r)
  | _, _, .obj h r => .obj (s _ _ h) (Rf.mono s r)
  | _, _, .src h => .src h
theorem Rs.mono (s : Same H H') : ∀ {t : List T} {v : List V}, Rs K p H t v → Rs K p H' t v
  | _, _, .nil => .nil
  | _, _, .cons h r => .cons (R.mono s h) (Rs.mono s r)
theorem Rk.mono (s : Same H H') : ∀ {t : List (Str × T)} {v : List (Key × V)}, Rk K p H t v → Rk K p H' t v
  | _, _, .nil => .nil
  | _, _, .cons h r => .cons (R.mono s h) (Rk.mono s r)
theorem Rf.mono (s : Same H H') : ∀ {t : List (Str × T)} {v : List (Str × V)}, Rf K p H t v → Rf K p H' t v
  | _, _, .nil => .nil
  | _, _, .cons h r => .cons (R.mono s h) (Rf.mono s r)
end
theorem Rs.length {ts : List T} {vs : List V} (h : Rs K p H ts vs) : vs.length = ts.length := by
  induction ts generalizing vs with
  | nil => cases h; rfl
  | cons t r ih => cases h with | cons h1 h2 => rw [List.length_cons, List.length_cons, ih h2]
theorem Rs.get {ts : List T} {vs : List V} {i : Nat} {t : T} (h : Rs K p H ts vs) (e : ts[i]? = some t) : ∃ v, vs[i]? = some v ∧ R K p H t v := by
  induction ts generalizing vs i with
  | nil => simp at e
  | cons a r ih =>
    cases h with
    | cons h1 h2 =>
      cases i with
      | zero => simp at e; subst e; exact ⟨_, rfl, h1⟩
      | succ i =>
        obtain ⟨v, e1, r1⟩ := ih h2 (i := i) (by simpa using e)
        exact ⟨v, by simpa using e1, r1⟩
theorem Rs.app {ts us : List T} {vs ws : List V} (h : Rs K p H ts vs) (g : Rs K p H us ws) : Rs K p H (ts ++ us) (vs ++ ws) := by
  induction ts generalizing vs with
  | nil => cases h; exact g
  | cons a r ih => cases h with | cons h1 h2 => exact .cons h1 (ih h2)
theorem Rs.one {t : T} {v : V} (h : R K p H t v) : Rs K p H [t] [v] := .cons h .nil
theorem Rs.back {ts : List T} {vs : List V} {i : Nat} {v : V} (h : Rs K p H ts vs) (e : vs[i]? = some v) : ∃ t, ts[i]? = some t ∧ R K p H t v := by
  induction ts generalizing vs i with
  | nil => cases h; simp at e
  | cons a r ih =>
    cases h with
    | cons h1 h2 =>
      cases i with
      | zero => simp at e; subst e; exact ⟨_, rfl, h1⟩
      | succ i =>
        obtain ⟨t, e1, r1⟩ := ih h2 (i := i) (by simpa using e)
        exact ⟨t, by simpa using e1, r1⟩
/-- texts, ints: no heap -/
theorem Rs.strs : ∀ xs : List Str, Rs K p H (xs.map T.str) (xs.map V.str)
  | [] => .nil
  | x :: r => .cons (.str x) (Rs.strs r)
theorem Rs.ofStrs {xs : List Str} {vs : List V} (h : Rs K p H (xs.map T.str) vs) : vs = xs.map V.str := by
  induction xs generalizing vs with
  | nil => cases h; rfl
  | cons x r ih => cases h with | cons h1 h2 => cases h1; rw [ih h2]; rfl
theorem R.toStr {x : Str} {v : V} (h : R K p H (.str x) v) : v = .str x := by cases h; rfl
theorem R.toInt {i : Int} {v : V} (h : R K p H (.int i) v) : v = .int i := by cases h; rfl
theorem R.toBl {b : Bool} {v : V} (h : R K p H (.bl b) v) : v = .bl b := by cases h; rfl
theorem R.toNon {v : V} (h : R K p H .non v) : v = .non := by cases h; rfl
end

/-! ### what is hidden; the frame -/
open Classical in
noncomputable def hid (G : Addr → Prop) (H : Hp) : Hp := fun a => if G a then none else H a
theorem hid_of {G : Addr → Prop} {H : Hp} {a : Addr} {o : HO} (g : ¬ G a) (h : H a = some o) : hid G H a = some o := by unfold hid; rw [if_neg g]; exact h
theorem hid_to {G : Addr → Prop} {H : Hp} {a : Addr} {o : HO} (h : hid G H a = some o) : ¬ G a ∧ H a = some o := by
  unfold hid at h
  split at h
  · cases h
  · exact ⟨by assumption, h⟩
theorem hid_in {G : Addr → Prop} {H : Hp} : Same (hid G H) H := fun _ _ h => (hid_to h).2
theorem hid_anti {G G' : Addr → Prop} {H : Hp} (h : ∀ a, G' a → G a) : Same (hid G H) (hid G' H) := fun a _ e =>
  hid_of (fun g => (hid_to e).1 (h a g)) (hid_to e).2
/-- all but the source stands -/
def Kp (p : Option Addr) (H H' : Hp) : Prop := ∀ b o, p ≠ some b → H b = some o → H' b = some o
theorem Kp.refl (p : Option Addr) (H : Hp) : Kp p H H := fun _ _ _ h => h
theorem Kp.trans {p : Option Addr} {H H1 H2 : Hp} (a : Kp p H H1) (b : Kp p H1 H2) : Kp p H H2 := fun c o n h => b c o n (a c o n h)
theorem Kp.of {p : Option Addr} {H H' : Hp} (s : Same H H') : Kp p H H' := fun b o _ h => s b o h
theorem Kp.new {p : Option Addr} {q : Addr} {H : Hp} {o : HO} (hq : H q = none) : Kp p H (upd H q o) := .of (same_new hq)
where same_new {H : Hp} {p : Addr} {o : HO} (h : H p = none) : Same H (upd H p o) := fun b u e => by rw [upd_ne (ne_of_none e h)]; exact e
/-- the hidden things are there; the source's place and count -/
structure Wld (p : Option Addr) (G : Addr → Prop) (n : Nat) (H : Hp) : Prop where
  gok : ∀ a, G a → ∃ o, H a = some o
  src : ∀ a, p = some a → G a ∧ SrcAt H a n
section
variable {K : PySem.W.Frag} {p : Option Addr} {G G' : Addr → Prop} {n m : Nat} {H H' : Hp}
theorem Kp.hid (k : Kp p H H') (w : ∀ a, p = some a → G a) : Same (hid G H) (Tr.hid G H') := fun b o e => by
  obtain ⟨g, h⟩ := hid_to e
  exact hid_of g (k b o (fun z => g (w b z)) h)
theorem Wld.hd (w : Wld p G n H) : ∀ a, p = some a → G a := fun a e => (w.src a e).1
/-- behind a step that keeps all but the source -/
theorem Wld.kp (w : Wld p G n H) (k : Kp p H H') (s : ∀ a, p = some a → SrcAt H' a m) : Wld p G m H' :=
  ⟨fun a g => by
    obtain ⟨o, h⟩ := w.gok a g
    by_cases e : p = some a
    · exact (s a e).there
    · exact ⟨o, k a o e h⟩, fun a e => ⟨(w.src a e).1, s a e⟩⟩
theorem Wld.fresh (w : Wld p G n H) {q : Addr} (h : H q = none) : ¬ G q := fun g => by
  obtain ⟨o, e⟩ := w.gok q g
  rw [h] at e
  cases e
theorem Wld.new (w : Wld p G n H) {q : Addr} {o : HO} (h : H q = none) : Wld p G n (upd H q o) := w.kp (Kp.new h) fun a e => (w.src a e).2.new h
theorem Wld.nsrc (w : Wld p G n H) {q : Addr} (h : H q = none) : p ≠ some q := fun e => w.fresh h (w.src q e).1
theorem Kp.free (k : Kp p H H') (w : Wld p G n H) (w' : Wld p G m H') {q : Addr} (h : H' q = none) : H q = none := by
  cases e : H q with
  | none => rfl
  | some o =>
    by_cases z : p = some q
    · obtain ⟨_, h'⟩ := (w'.src q z).2.there
      rw [h] at h'
      cases h'
    · rw [k q o z e] at h
      cases h
/-- what was made anew may change -/
theorem Kp.mut (k : Kp p H H') {q : Addr} {o : HO} (h : H q = none) : Kp p H (upd H' q o) := fun b u n e => by
  rw [upd_ne (ne_of_none e h)]
  exact k b u n e
theorem R.kp {t : T} {v : V} (w : ∀ a, p = some a → G a) (k : Kp p H H') (r : R K p (hid G H) t v) : R K p (Tr.hid G H') t v := r.mono (k.hid w)
theorem Rs.kp {t : List T} {v : List V} (w : ∀ a, p = some a → G a) (k : Kp p H H') (r : Rs K p (hid G H) t v) : Rs K p (Tr.hid G H') t v := r.mono (k.hid w)
/-- a new list, a new tuple of such -/
theorem R.newL {q : Addr} {ts : List T} {vs : List V} (w : Wld p G n H) (h : H q = none) (r : Rs K p (hid G H) ts vs) : R K p (hid G (upd H q (.lst vs))) (.lst ts) (.ref q) :=
  .lst (hid_of (w.fresh h) upd_same) (r.kp w.hd (Kp.new h))
theorem R.newT {q : Addr} {ts : List T} {vs : List V} (w : Wld p G n H) (h : H q = none) (r : Rs K p (hid G H) ts vs) : R K p (hid G (upd H q (.tup vs))) (.tup ts) (.ref q) :=
  .tup (SqT.of (hid_of (w.fresh h) upd_same)) (r.kp w.hd (Kp.new h))

/-- hidden beside: one place more -/
def GA (G : Addr → Prop) (a : Addr) : Addr → Prop := fun b => G b ∨ b = a
theorem Kp.hid2 {G' : Addr → Prop} (k : Kp p H H') (w : ∀ a, p = some a → G a) (g : ∀ a, G' a → G a ∨ H a = none) : Same (Tr.hid G H) (Tr.hid G' H') := fun b o e => by
  obtain ⟨h, e⟩ := hid_to e
  refine hid_of (fun z => ?_) (k b o (fun z => h (w b z)) e)
  rcases g b z with z | z
  · exact h z
  · rw [e] at z; cases z
theorem Rs.newA {q : Addr} {o : HO} {ts : List T} {vs : List V} (r : Rs K p (hid G H) ts vs) (w : Wld p G n H) (h : H q = none) : Rs K p (hid (GA G q) (upd H q o)) ts vs :=
  r.mono ((Kp.new h).hid2 w.hd fun a z => z.elim .inl fun e => .inr (e ▸ h))
theorem Rk.newA {q : Addr} {o : HO} {ts : List (Str × T)} {vs : List (Key × V)} (r : Rk K p (hid G H) ts vs) (w : Wld p G n H) (h : H q = none) : Rk K p (hid (GA G q) (upd H q o)) ts vs :=
  r.mono ((Kp.new h).hid2 w.hd fun a z => z.elim .inl fun e => .inr (e ▸ h))
/-! ### what a slot holds -/
/-- nothing that is known; a tree that stays; a list or dict of the def's own, which may change -/
inductive Sl where
  | no | sh (t : T) | ow (t : T)
abbrev En := List Sl
/-- what a list or dict that may change holds -/
inductive Cont (K : PySem.W.Frag) (p : Option Addr) (Hh H : Hp) (a : Addr) : T → Prop
  | lst {vs : List V} {xs : List T} : H a = some (.lst vs) → Rs K p Hh xs vs → Cont K p Hh H a (.lst xs)
  | dic {ws : List (Key × V)} {kvs : List (Str × T)} : H a = some (.dK ws) → Rk K p Hh kvs ws → Cont K p Hh H a (.dic kvs)
  | obj {C dx : Addr} {ws : List (Str × V)} {fs : List (Str × T)} : H a = some (.ins C dx ws) → Rf K p Hh fs ws → ws.length = fs.length → Cont K p Hh H a (.obj C fs)
theorem Cont.kp {a : Addr} {t : T} (w : ∀ a, p = some a → G a) (k : Kp p H H') (n : p ≠ some a) (c : Cont K p (hid G H) H a t) : Cont K p (Tr.hid G H') H' a t := by
  cases c with
  | lst h r => exact .lst (k _ _ n h) (r.kp w k)
  | dic h r => exact .dic (k _ _ n h) (r.mono (k.hid w))
  | obj h r l => exact .obj (k _ _ n h) (r.mono (k.hid w)) l
structure RelE (K : PySem.W.Frag) (p : Option Addr) (G : Addr → Prop) (ad : Nat → Addr) (E : En) (σ : L2.St) (H : Hp) : Prop where
  len : σ.length = E.length
  sh : ∀ (i : Nat) (t : T), E[i]? = some (.sh t) → ∃ v, σ[i]? = some (some v) ∧ R K p (hid G H) t v
  ow : ∀ (i : Nat) (t : T), E[i]? = some (.ow t) → σ[i]? = some (some (.ref (ad i))) ∧ G (ad i) ∧ p ≠ some (ad i) ∧ Cont K p (hid G H) H (ad i) t
theorem RelE.kp {ad : Nat → Addr} {E : En} {σ : L2.St} (w : ∀ a, p = some a → G a) (k : Kp p H H') (r : RelE K p G ad E σ H) : RelE K p G ad E σ H' :=
  ⟨r.len, fun i t e => let ⟨v, e1, h⟩ := r.sh i t e; ⟨v, e1, h.kp w k⟩, fun i t e => let ⟨e1, g, n, c⟩ := r.ow i t e; ⟨e1, g, n, c.kp w k n⟩⟩
/-- a value that is read on the spot: a tree that stays, or what the def owns -/
def RX (K : PySem.W.Frag) (p : Option Addr) (G : Addr → Prop) (H : Hp) (t : T) (v : V) : Prop := R K p (hid G H) t v ∨ ∃ a, v = .ref a ∧ p ≠ some a ∧ Cont K p (hid G H) H a t
theorem RX.kp {t : T} {v : V} (w : ∀ a, p = some a → G a) (k : Kp p H H') (r : RX K p G H t v) : RX K p G H' t v := by
  rcases r with r | ⟨a, e, n, c⟩
  · exact .inl (r.kp w k)
  · exact .inr ⟨a, e, n, c.kp w k n⟩
theorem RX.list {xs : List T} {v : V} (r : RX K p G H (.lst xs) v) : ∃ a vs, v = .ref a ∧ H a = some (.lst vs) ∧ Rs K p (hid G H) xs vs := by
  rcases r with r | ⟨a, e, _, c⟩
  · cases r with | lst h r => exact ⟨_, _, rfl, hid_in _ _ h, r⟩
  · cases c with | lst h r => exact ⟨a, _, e, h, r⟩
theorem RX.tuple {xs : List T} {v : V} (r : RX K p G H (.tup xs) v) : ∃ a vs, v = .ref a ∧ SqT K H a vs ∧ Rs K p (hid G H) xs vs := by
  rcases r with r | ⟨a, e, _, c⟩
  · cases r with | tup h r => exact ⟨_, _, rfl, sqt_same hid_in h, r⟩
  · cases c
theorem RX.str {x : Str} {v : V} (r : RX K p G H (.str x) v) : v = .str x := by
  rcases r with r | ⟨a, e, _, c⟩
  · exact r.toStr
  · cases c
theorem RX.int {x : Int} {v : V} (r : RX K p G H (.int x) v) : v = .int x := by
  rcases r with r | ⟨a, e, _, c⟩
  · exact r.toInt
  · cases c
theorem RX.bl {x : Bool} {v : V} (r : RX K p G H (.bl x) v) : v = .bl x := by
  rcases r with r | ⟨a, e, _, c⟩
  · exact r.toBl
  · cases c
theorem RX.non {v : V} (r : RX K p G H .non v) : v = .non := by
  rcases r with r | ⟨a, e, _, c⟩
  · exact r.toNon
  · cases c
theorem RX.dict {kvs : List (Str × T)} {v : V} (r : RX K p G H (.dic kvs) v) : ∃ a ws, v = .ref a ∧ H a = some (.dK ws) ∧ Rk K p (hid G H) kvs ws := by
  rcases r with r | ⟨a, e, _, c⟩
  · cases r with | dic h r => exact ⟨_, _, rfl, hid_in _ _ h, r⟩
  · cases c with | dic h r => exact ⟨a, _, e, h, r⟩
end
end Tr
/-! ## Tr2 -/
set_option Elab.async false
set_option linter.all false
set_option maxRecDepth 100000
set_option maxHeartbeats 4000000
/-! Tr2: what an expression's reading does, told of trees; own work. -/
namespace Tr
open PySem PySem.Spec PyProof.Rows L2 Sl
/-- what is wanted of a tree, a test's answer, some trees (and the draws so far) -/
abbrev KT := T → Nat → Prop
abbrev WE := En → Nat → KT → Prop
abbrev WB := En → Nat → (Bool → Nat → Prop) → Prop
abbrev WA := En → Nat → (List T → Nat → Prop) → Prop
section
variable (K : PySem.W.Frag) (p : Option Addr)
def EvT (te : TE) (W : WE) : Prop := ∀ (G : Addr → Prop) (ad : Nat → Addr) (E : En) (n : Nat) (σ : L2.St) (H : Hp) (Q : VK), Wld p G n H → RelE K p G ad E σ H →
  W E n (fun t m => ∀ v H', Kp p H H' → Wld p G m H' → R K p (hid G H') t v → Q v H') → te σ H Q
/-- what is read on the spot -/
def EvX (te : TE) (W : WE) : Prop := ∀ (G : Addr → Prop) (ad : Nat → Addr) (E : En) (n : Nat) (σ : L2.St) (H : Hp) (Q : VK), Wld p G n H → RelE K p G ad E σ H →
  W E n (fun t m => ∀ v H', Kp p H H' → Wld p G m H' → RX K p G H' t v → Q v H') → te σ H Q
/-- a list or dict that is new -/
def EvN (te : TE) (W : WE) : Prop := ∀ (G : Addr → Prop) (ad : Nat → Addr) (E : En) (n : Nat) (σ : L2.St) (H : Hp) (Q : VK), Wld p G n H → RelE K p G ad E σ H →
  W E n (fun t m => ∀ a H', Kp p H H' → Wld p G m H' → H a = none → Cont K p (hid (GA G a) H') H' a t → Q (.ref a) H') → te σ H Q
def EvB (tt : TT) (W : WB) : Prop := ∀ (G : Addr → Prop) (ad : Nat → Addr) (E : En) (n : Nat) (σ : L2.St) (H : Hp) (Q : Bool → Hp → Prop), Wld p G n H → RelE K p G ad E σ H →
  W E n (fun b m => ∀ H', Kp p H H' → Wld p G m H' → Q b H') → tt σ H Q
def EvA (ta : TA) (W : WA) : Prop := ∀ (G : Addr → Prop) (ad : Nat → Addr) (E : En) (n : Nat) (σ : L2.St) (H : Hp) (Q : List V → Hp → Prop), Wld p G n H → RelE K p G ad E σ H →
  W E n (fun ts m => ∀ vs H', Kp p H H' → Wld p G m H' → Rs K p (hid G H') ts vs → Q vs H') → ta σ H Q
end
theorem Cont.un {K : PySem.W.Frag} {p : Option Addr} {G : Addr → Prop} {H : Hp} {a b : Addr} {t : T} (c : Cont K p (hid (GA G b) H) H a t) : Cont K p (hid G H) H a t := by
  cases c with
  | lst h r => exact .lst h (r.mono (hid_anti fun _ z => .inl z))
  | dic h r => exact .dic h (r.mono (hid_anti fun _ z => .inl z))
  | obj h r l => exact .obj h (r.mono (hid_anti fun _ z => .inl z)) l
def opt {α : Type} (o : Option α) (k : α → Prop) : Prop := match o with | some z => k z | none => False
section
variable {K : PySem.W.Frag} {p : Option Addr}
theorem Cont.rx {G : Addr → Prop} {H : Hp} {a : Addr} {t : T} (n : p ≠ some a) (c : Cont K p (hid G H) H a t) : RX K p G H t (.ref a) := .inr ⟨a, rfl, n, c⟩
theorem Cont.r {G : Addr → Prop} {H : Hp} {a : Addr} {t : T} (g : ¬ G a) (c : Cont K p (hid G H) H a t) : R K p (hid G H) t (.ref a) := by
  cases c with
  | lst h r => exact .lst (hid_of g h) r
  | dic h r => exact .dic (hid_of g h) r
  | obj h r l => exact .obj (hid_of g h) r
theorem EvT.x {te : TE} {W : WE} (h : EvT K p te W) (mw : ∀ E n k k', (∀ t m, k t m → k' t m) → W E n k → W E n k') : EvX K p te W := fun G ad E n σ H Q w r q =>
  h G ad E n σ H Q w r (mw _ _ _ _ (fun t m k v H' a b c => k v H' a b (.inl c)) q)
/-- a reading's wish may be weakened -/
def Mono (W : WE) : Prop := ∀ E n k k', (∀ t m, k t m → k' t m) → W E n k → W E n k'
def MonoB (W : WB) : Prop := ∀ E n k k', (∀ t m, k t m → k' t m) → W E n k → W E n k'
def MonoA (W : WA) : Prop := ∀ E n k k', (∀ t m, k t m → k' t m) → W E n k → W E n k'
end
/-- a reading with its wish's law -/
structure ET (K : PySem.W.Frag) (p : Option Addr) (te : TE) (W : WE) : Prop where
  ev : EvT K p te W
  mo : Mono W
structure EX (K : PySem.W.Frag) (p : Option Addr) (te : TE) (W : WE) : Prop where
  ev : EvX K p te W
  mo : Mono W
structure EN (K : PySem.W.Frag) (p : Option Addr) (te : TE) (W : WE) : Prop where
  ev : EvN K p te W
  mo : Mono W
structure EB (K : PySem.W.Frag) (p : Option Addr) (tt : TT) (W : WB) : Prop where
  ev : EvB K p tt W
  mo : MonoB W
structure EA (K : PySem.W.Frag) (p : Option Addr) (ta : TA) (W : WA) : Prop where
  ev : EvA K p ta W
  mo : MonoA W
section
variable {K : PySem.W.Frag} {p : Option Addr} {te ta tb tc : TE} {tt tt' : TT} {tr : TA} {We Wa Wb Wc : WE} {V1 V2 : WB} {Wr : WA}
theorem opt_mono {α : Type} {o : Option α} {k k' : α → Prop} (h : ∀ z, k z → k' z) (q : opt o k) : opt o k' := by
  cases o with
  | none => exact q
  | some z => exact h z q
theorem ET.x (h : ET K p te We) : EX K p te We := ⟨h.ev.x h.mo, h.mo⟩
theorem EN.t (h : EN K p te We) : ET K p te We := ⟨fun G ad E n σ H Q w r q => h.ev G ad E n σ H Q w r (h.mo _ _ _ _ (fun t m k a H' kp w' hn c => k _ H' kp w' (c.un.r fun g => by
  obtain ⟨o, ho⟩ := w.gok a g
  rw [hn] at ho
  cases ho)) q), h.mo⟩
/-! ### names, constants -/
def wVar (i : Nat) : WE := fun E n k => match E[i]? with | some (.sh t) => k t n | _ => False
def wOw (i : Nat) : WE := fun E n k => match E[i]? with | some (.ow t) => k t n | _ => False
theorem et_var (i : Nat) : ET K p (tVar i) (wVar i) := ⟨fun G ad E n σ H Q w r q => by
  unfold wVar at q
  split at q
  · rename_i t e
    obtain ⟨v, e1, h⟩ := r.sh i t e
    exact ⟨v, e1, q v H (.refl _ _) w h⟩
  · exact q.elim, fun E n k k' h q => by
  unfold wVar at q ⊢
  split at q
  · exact h _ _ q
  · exact q.elim⟩
theorem ex_ow (i : Nat) : EX K p (tVar i) (wOw i) := ⟨fun G ad E n σ H Q w r q => by
  unfold wOw at q
  split at q
  · rename_i t e
    obtain ⟨e1, g, ns, c⟩ := r.ow i t e
    exact ⟨_, e1, q _ H (.refl _ _) w (c.rx ns)⟩
  · exact q.elim, fun E n k k' h q => by
  unfold wOw at q ⊢
  split at q
  · exact h _ _ q
  · exact q.elim⟩
def wC (t : T) : WE := fun _ n k => k t n
theorem et_c {t : T} {v : V} (h : ∀ H, R K p H t v) : ET K p (tC v) (wC t) := ⟨fun G ad E n σ H Q w r q => q v H (.refl _ _) w (h _), fun E n k k' h q => h _ _ q⟩
theorem et_int (i : Int) : ET K p (tC (.int i)) (wC (.int i)) := et_c fun _ => .int i
theorem et_str (x : Str) : ET K p (tC (.str x)) (wC (.str x)) := et_c fun _ => .str x
theorem et_bl (b : Bool) : ET K p (tC (.bl b)) (wC (.bl b)) := et_c fun _ => .bl b
theorem et_non : ET K p (tC .non) (wC .non) := et_c fun _ => .non
/-! ### operators -/
/-- what an operator does with trees: the answer a tree, what is new beside what stands -/
def Op2 (K : PySem.W.Frag) (p : Option Addr) (r : R2) (f : T → T → Option T) : Prop := ∀ (G : Addr → Prop) (n : Nat) (H : Hp) (x y z : T) (v w : V) (Q : VK), Wld p G n H → RX K p G H x v → RX K p G H y w → f x y = some z →
  (∀ u H', Kp p H H' → Wld p G n H' → R K p (hid G H') z u → Q u H') → r v w H Q
def Op2N (K : PySem.W.Frag) (p : Option Addr) (r : R2) (f : T → T → Option T) : Prop := ∀ (G : Addr → Prop) (n : Nat) (H : Hp) (x y z : T) (v w : V) (Q : VK), Wld p G n H → RX K p G H x v → RX K p G H y w → f x y = some z →
  (∀ a H', Kp p H H' → Wld p G n H' → H a = none → Cont K p (hid (GA G a) H') H' a z → Q (.ref a) H') → r v w H Q
def w2 (f : T → T → Option T) (Wa Wb : WE) : WE := fun E n k => Wa E n fun x m => Wb E m fun y m' => opt (f x y) fun z => k z m'
theorem mono2 {f : T → T → Option T} (ha : Mono Wa) (hb : Mono Wb) : Mono (w2 f Wa Wb) := fun E n k k' h q => ha _ _ _ _ (fun x m q => hb _ _ _ _ (fun y m' q => opt_mono (fun z q => h _ _ q) q) q) q
theorem opt_some {α : Type} {o : Option α} {k : α → Prop} (q : opt o k) : ∃ z, o = some z ∧ k z := by
  cases o with
  | none => cases q
  | some z => exact ⟨z, rfl, q⟩
theorem et_op {r : R2} {f : T → T → Option T} (ho : Op2 K p r f) (ha : EX K p ta Wa) (hb : EX K p tb Wb) : ET K p (tOp r ta tb) (w2 f Wa Wb) := ⟨fun G ad E n σ H Q w rl q => by
  refine ha.ev G ad E n σ H _ w rl (ha.mo _ _ _ _ (fun x m q v H1 k1 w1 r1 => ?_) q)
  refine hb.ev G ad E m σ H1 _ w1 (rl.kp w.hd k1) (hb.mo _ _ _ _ (fun y m' q u H2 k2 w2 r2 => ?_) q)
  obtain ⟨z, e, q⟩ := opt_some q
  exact ho G m' H2 x y z v u Q w2 (r1.kp w.hd k2) r2 e fun u' H3 k3 w3 r3 => q u' H3 (k1.trans (k2.trans k3)) w3 r3, mono2 ha.mo hb.mo⟩
theorem en_op {r : R2} {f : T → T → Option T} (ho : Op2N K p r f) (ha : EX K p ta Wa) (hb : EX K p tb Wb) : EN K p (tOp r ta tb) (w2 f Wa Wb) := ⟨fun G ad E n σ H Q w rl q => by
  refine ha.ev G ad E n σ H _ w rl (ha.mo _ _ _ _ (fun x m q v H1 k1 w1 r1 => ?_) q)
  refine hb.ev G ad E m σ H1 _ w1 (rl.kp w.hd k1) (hb.mo _ _ _ _ (fun y m' q u H2 k2 w2 r2 => ?_) q)
  obtain ⟨z, e, q⟩ := opt_some q
  exact ho G m' H2 x y z v u Q w2 (r1.kp w.hd k2) r2 e fun u' H3 k3 w3 n3 r3 => q u' H3 (k1.trans (k2.trans k3)) w3 (k1.free w w1 (k2.free w1 w2 n3)) r3, mono2 ha.mo hb.mo⟩
/-! tests -/
def wVal (W : WE) : WB := fun E n k => W E n fun t m => match t with | .bl b => k b m | _ => False
theorem monoVal (h : Mono We) : MonoB (wVal We) := fun E n k k' hk q => h _ _ _ _ (fun t m q => by cases t <;> first | exact hk _ _ q | cases q) q
theorem eb_test (h : ET K p te We) : EB K p (tTest te) (wVal We) := ⟨fun G ad E n σ H Q w rl q => by
  refine h.ev G ad E n σ H _ w rl (h.mo _ _ _ _ (fun t m q v H1 k1 w1 r1 => ?_) q)
  cases t <;> try cases q
  exact ⟨_, r1.toBl, q H1 k1 w1⟩, monoVal h.mo⟩
theorem eb_val (h : ET K p te We) : EB K p (tB te) (wVal We) := ⟨fun G ad E n σ H Q w rl q => by
  refine h.ev G ad E n σ H _ w rl (h.mo _ _ _ _ (fun t m q v H1 k1 w1 r1 => ?_) q)
  cases t <;> try cases q
  exact ⟨_, r1.toBl, q H1 k1 w1⟩, monoVal h.mo⟩
def bAnd (V1 V2 : WB) : WB := fun E n k => V1 E n fun b m => if b = true then V2 E m k else k false m
def bOr (V1 V2 : WB) : WB := fun E n k => V1 E n fun b m => if b = true then k true m else V2 E m k
def bNot (V1 : WB) : WB := fun E n k => V1 E n fun b m => k (!b) m
theorem eb_and (h1 : EB K p tt V1) (h2 : EB K p tt' V2) : EB K p (tAnd tt tt') (bAnd V1 V2) := ⟨fun G ad E n σ H Q w rl q => by
  refine h1.ev G ad E n σ H _ w rl (h1.mo _ _ _ _ (fun b m q H1 k1 w1 => ?_) q)
  cases b with
  | true => exact h2.ev G ad E m σ H1 _ w1 (rl.kp w.hd k1) (h2.mo _ _ _ _ (fun b m' q H2 k2 w2 => q H2 (k1.trans k2) w2) q)
  | false => exact q H1 k1 w1, fun E n k k' hk q => h1.mo _ _ _ _ (fun b m q => by
  cases b with
  | true => exact h2.mo _ _ _ _ hk q
  | false => exact hk _ _ q) q⟩
theorem eb_or (h1 : EB K p tt V1) (h2 : EB K p tt' V2) : EB K p (tOr tt tt') (bOr V1 V2) := ⟨fun G ad E n σ H Q w rl q => by
  refine h1.ev G ad E n σ H _ w rl (h1.mo _ _ _ _ (fun b m q H1 k1 w1 => ?_) q)
  cases b with
  | false => exact h2.ev G ad E m σ H1 _ w1 (rl.kp w.hd k1) (h2.mo _ _ _ _ (fun b m' q H2 k2 w2 => q H2 (k1.trans k2) w2) q)
  | true => exact q H1 k1 w1, fun E n k k' hk q => h1.mo _ _ _ _ (fun b m q => by
  cases b with
  | false => exact h2.mo _ _ _ _ hk q
  | true => exact hk _ _ q) q⟩
theorem eb_not (h1 : EB K p tt V1) : EB K p (tNot tt) (bNot V1) := ⟨fun G ad E n σ H Q w rl q => h1.ev G ad E n σ H _ w rl q, fun E n k k' hk q => h1.mo _ _ _ _ (fun b m q => hk _ _ q) q⟩
/-- a and b, a or b as values (bools) -/
def wAndV (Wa Wb : WE) : WE := fun E n k => Wa E n fun t m => match t with | .bl true => Wb E m k | .bl false => k (.bl false) m | _ => False
def wOrV (Wa Wb : WE) : WE := fun E n k => Wa E n fun t m => match t with | .bl false => Wb E m k | .bl true => k (.bl true) m | _ => False
theorem et_andV (ha : ET K p ta Wa) (hb : ET K p tb Wb) : ET K p (tAndV ta tb) (wAndV Wa Wb) := ⟨fun G ad E n σ H Q w rl q => by
  refine ha.ev G ad E n σ H _ w rl (ha.mo _ _ _ _ (fun t m q v H1 k1 w1 r1 => ?_) q)
  cases t <;> try cases q
  rename_i b
  refine ⟨b, r1.toBl, ?_⟩
  cases b with
  | true => exact hb.ev G ad E m σ H1 _ w1 (rl.kp w.hd k1) (hb.mo _ _ _ _ (fun t m' q v H2 k2 w2 r2 => q v H2 (k1.trans k2) w2 r2) q)
  | false => exact q _ H1 k1 w1 (.bl false), fun E n k k' hk q => ha.mo _ _ _ _ (fun t m q => by
  cases t <;> try cases q
  rename_i b
  cases b with
  | true => exact hb.mo _ _ _ _ hk q
  | false => exact hk _ _ q) q⟩
theorem et_orV (ha : ET K p ta Wa) (hb : ET K p tb Wb) : ET K p (tOrV ta tb) (wOrV Wa Wb) := ⟨fun G ad E n σ H Q w rl q => by
  refine ha.ev G ad E n σ H _ w rl (ha.mo _ _ _ _ (fun t m q v H1 k1 w1 r1 => ?_) q)
  cases t <;> try cases q
  rename_i b
  refine ⟨b, r1.toBl, ?_⟩
  cases b with
  | false => exact hb.ev G ad E m σ H1 _ w1 (rl.kp w.hd k1) (hb.mo _ _ _ _ (fun t m' q v H2 k2 w2 r2 => q v H2 (k1.trans k2) w2 r2) q)
  | true => exact q _ H1 k1 w1 (.bl true), fun E n k k' hk q => ha.mo _ _ _ _ (fun t m q => by
  cases t <;> try cases q
  rename_i b
  cases b with
  | false => exact hb.mo _ _ _ _ hk q
  | true => exact hk _ _ q) q⟩
def wNotV (Wa : WE) : WE := fun E n k => Wa E n fun t m => match t with | .bl b => k (.bl (!b)) m | _ => False
theorem et_notV (ha : ET K p ta Wa) : ET K p (tNotV ta) (wNotV Wa) := ⟨fun G ad E n σ H Q w rl q => by
  refine ha.ev G ad E n σ H _ w rl (ha.mo _ _ _ _ (fun t m q v H1 k1 w1 r1 => ?_) q)
  cases t <;> try cases q
  exact ⟨_, r1.toBl, q _ H1 k1 w1 (.bl _)⟩, fun E n k k' hk q => ha.mo _ _ _ _ (fun t m q => by cases t <;> first | exact hk _ _ q | cases q) q⟩
def wIf (V1 : WB) (Wa Wb : WE) : WE := fun E n k => V1 E n fun b m => if b = true then Wa E m k else Wb E m k
theorem et_if (h1 : EB K p tt V1) (ha : ET K p ta Wa) (hb : ET K p tb Wb) : ET K p (tIf tt ta tb) (wIf V1 Wa Wb) := ⟨fun G ad E n σ H Q w rl q => by
  refine h1.ev G ad E n σ H _ w rl (h1.mo _ _ _ _ (fun b m q H1 k1 w1 => ?_) q)
  cases b with
  | true => exact ha.ev G ad E m σ H1 _ w1 (rl.kp w.hd k1) (ha.mo _ _ _ _ (fun t m' q v H2 k2 w2 r2 => q v H2 (k1.trans k2) w2 r2) q)
  | false => exact hb.ev G ad E m σ H1 _ w1 (rl.kp w.hd k1) (hb.mo _ _ _ _ (fun t m' q v H2 k2 w2 r2 => q v H2 (k1.trans k2) w2 r2) q), fun E n k k' hk q => h1.mo _ _ _ _ (fun b m q => by
  cases b with
  | true => exact ha.mo _ _ _ _ hk q
  | false => exact hb.mo _ _ _ _ hk q) q⟩
theorem en_if (h1 : EB K p tt V1) (ha : EN K p ta Wa) (hb : EN K p tb Wb) : EN K p (tIf tt ta tb) (wIf V1 Wa Wb) := ⟨fun G ad E n σ H Q w rl q => by
  refine h1.ev G ad E n σ H _ w rl (h1.mo _ _ _ _ (fun b m q H1 k1 w1 => ?_) q)
  cases b with
  | true => exact ha.ev G ad E m σ H1 _ w1 (rl.kp w.hd k1) (ha.mo _ _ _ _ (fun t m' q v H2 k2 w2 n2 r2 => q v H2 (k1.trans k2) w2 (k1.free w w1 n2) r2) q)
  | false => exact hb.ev G ad E m σ H1 _ w1 (rl.kp w.hd k1) (hb.mo _ _ _ _ (fun t m' q v H2 k2 w2 n2 r2 => q v H2 (k1.trans k2) w2 (k1.free w w1 n2) r2) q), fun E n k k' hk q => h1.mo _ _ _ _ (fun b m q => by
  cases b with
  | true => exact ha.mo _ _ _ _ hk q
  | false => exact hb.mo _ _ _ _ hk q) q⟩
/-! ### arguments, displays -/
def aNil : WA := fun _ n k => k [] n
def aCons (Wa : WE) (Wr : WA) : WA := fun E n k => Wa E n fun t m => Wr E m fun ts m' => k (t :: ts) m'
theorem ea_nil : EA K p tNil aNil := ⟨fun G ad E n σ H Q w rl q => q [] H (.refl _ _) w .nil, fun E n k k' hk q => hk _ _ q⟩
theorem ea_cons (ha : ET K p ta Wa) (hr : EA K p tr Wr) : EA K p (tCons ta tr) (aCons Wa Wr) := ⟨fun G ad E n σ H Q w rl q => by
  refine ha.ev G ad E n σ H _ w rl (ha.mo _ _ _ _ (fun t m q v H1 k1 w1 r1 => ?_) q)
  refine hr.ev G ad E m σ H1 _ w1 (rl.kp w.hd k1) (hr.mo _ _ _ _ (fun ts m' q vs H2 k2 w2 r2 => ?_) q)
  exact q _ H2 (k1.trans k2) w2 (.cons (r1.kp w.hd k2) r2), fun E n k k' hk q => ha.mo _ _ _ _ (fun t m q => hr.mo _ _ _ _ (fun ts m' q => hk _ _ q) q) q⟩
def wLst (Wr : WA) : WE := fun E n k => Wr E n fun ts m => if ts.length ≤ sizeLine then k (.lst ts) m else False
def wTup (Wr : WA) : WE := fun E n k => Wr E n fun ts m => if ts.length ≤ sizeLine then k (.tup ts) m else False
theorem ite_get {c : Prop} [Decidable c] {q : Prop} (h : if c then q else False) : c ∧ q := by
  split at h
  · exact ⟨by assumption, h⟩
  · cases h
theorem ite_mono {c : Prop} [Decidable c] {q q' : Prop} (f : q → q') (h : if c then q else False) : if c then q' else False := by
  obtain ⟨a, b⟩ := ite_get h
  rw [if_pos a]
  exact f b
theorem en_lst (hr : EA K p tr Wr) : EN K p (tLst tr) (wLst Wr) := ⟨fun G ad E n σ H Q w rl q => by
  refine hr.ev G ad E n σ H _ w rl (hr.mo _ _ _ _ (fun ts m q vs H1 k1 w1 r1 => ?_) q)
  obtain ⟨hz, q⟩ := ite_get q
  refine ⟨by rw [r1.length]; exact hz, fun a ha => q a _ (k1.trans (Kp.new ha)) (w1.new ha) (k1.free w w1 ha) (.lst upd_same (r1.newA w1 ha))⟩, fun E n k k' hk q => hr.mo _ _ _ _ (fun ts m q => ite_mono (hk _ _) q) q⟩
theorem et_tup (hr : EA K p tr Wr) : ET K p (tTup tr) (wTup Wr) := ⟨fun G ad E n σ H Q w rl q => by
  refine hr.ev G ad E n σ H _ w rl (hr.mo _ _ _ _ (fun ts m q vs H1 k1 w1 r1 => ?_) q)
  obtain ⟨hz, q⟩ := ite_get q
  exact ⟨by rw [r1.length]; exact hz, fun a ha => q _ _ (k1.trans (Kp.new ha)) (w1.new ha) (R.newT w1 ha r1)⟩, fun E n k k' hk q => hr.mo _ _ _ _ (fun ts m q => ite_mono (hk _ _) q) q⟩
end
end Tr
/-! ## Tr3 -/
set_option Elab.async false
set_option linter.all false
set_option maxRecDepth 100000
set_option maxHeartbeats 4000000
/-! Tr3: what operators, items, slices, built-ins and methods of texts do with trees; own work. -/
namespace Tr
open PySem PySem.Spec PyProof.Rows L2 Sl
mutual
/-- a tree that is data -/
def data : T → Option PyData
  | .non => some .none
  | .bl b => some (.bool b)
  | .int i => some (.int i)
  | .str s => some (.str s)
  | .lst xs => (dataAll xs).map .list
  | .tup xs => (dataAll xs).map .tuple
  | .dic _ => none
  | .obj _ _ => none
  | .src => none
def dataAll : List T → Option (List PyData)
  | [] => some []
  | x :: r => (data x).bind fun d => (dataAll r).map fun ds => d :: ds
end
section
variable {K : PySem.W.Frag} {p : Option Addr} {H : Hp}
mutual
theorem R.dp : ∀ {t : T} {v : V} {d : PyData}, R K p H t v → data t = some d → Dp K H v d
  | _, _, _, .non, e => by cases e; exact .non
  | _, _, _, .bl b, e => by cases e; exact .bl b
  | _, _, _, .int i, e => by cases e; exact .int i
  | _, _, _, .str x, e => by cases e; exact .str x
  | _, _, _, .lst (xs := xs) h r, e => by
    have e' : (dataAll xs).map PyData.list = some _ := e
    obtain ⟨ds, e1, e2⟩ := Option.map_eq_some_iff.mp e'
    subst e2
    exact .lst (SqL.of h) (Rs.dp r e1)
  | _, _, _, .tup (xs := xs) h r, e => by
    have e' : (dataAll xs).map PyData.tuple = some _ := e
    obtain ⟨ds, e1, e2⟩ := Option.map_eq_some_iff.mp e'
    subst e2
    exact .tup h (Rs.dp r e1)
  | _, _, _, .dic _ _, e => by cases e
  | _, _, _, .obj _ _, e => by cases e
  | _, _, _, .src _, e => by cases e
theorem Rs.dp : ∀ {t : List T} {v : List V} {d : List PyData}, Rs K p H t v → dataAll t = some d → DpAll K H v d
  | _, _, _, .nil, e => by cases e; exact .nil
  | _, _, _, .cons (t := t) (ts := ts) h r, e => by
    have e' : ((data t).bind fun d => (dataAll ts).map fun ds => d :: ds) = some _ := e
    obtain ⟨d, e1, e2⟩ := Option.bind_eq_some_iff.mp e'
    obtain ⟨ds, e3, e4⟩ := Option.map_eq_some_iff.mp e2
    subst e4
    exact .cons (R.dp h e1) (Rs.dp r e3)
end
end
section
variable {K : PySem.W.Frag} {p : Option Addr} {G : Addr → Prop} {n : Nat} {H : Hp}
theorem RX.dp {t : T} {v : V} {d : PyData} (r : RX K p G H t v) (e : data t = some d) : Dp K H v d := by
  rcases r with r | ⟨a, ev, _, c⟩
  · exact R.dp (r.mono hid_in) e
  · subst ev
    cases c with
    | lst h r => exact R.dp (H := H) (t := .lst _) (.lst h (r.mono hid_in)) e
    | dic h r => cases e
    | obj h r l => cases e
def fEq (x y : T) : Option T := (data x).bind fun d => (data y).bind fun e => if SeqAt.shaped d && SeqAt.shaped e then some (.bl (PyData.eqv d e)) else none
def fNe (x y : T) : Option T := (data x).bind fun d => (data y).bind fun e => if SeqAt.shaped d && SeqAt.shaped e then some (.bl (!PyData.eqv d e)) else none
theorem o_eq : Op2 K p (rEqD K) fEq := fun G n H x y z v w Q wd r1 r2 e q => by
  obtain ⟨d, e1, e⟩ := Option.bind_eq_some_iff.mp e
  obtain ⟨d', e2, e⟩ := Option.bind_eq_some_iff.mp e
  split at e
  · rename_i hs
    obtain ⟨s1, s2⟩ := Bool.and_eq_true_iff.mp hs
    cases e
    exact ⟨d, d', r1.dp e1, r2.dp e2, s1, s2, q _ H (.refl _ _) wd (.bl _)⟩
  · cases e
theorem o_ne : Op2 K p (rNeD K) fNe := fun G n H x y z v w Q wd r1 r2 e q => by
  obtain ⟨d, e1, e⟩ := Option.bind_eq_some_iff.mp e
  obtain ⟨d', e2, e⟩ := Option.bind_eq_some_iff.mp e
  split at e
  · rename_i hs
    obtain ⟨s1, s2⟩ := Bool.and_eq_true_iff.mp hs
    cases e
    exact ⟨d, d', r1.dp e1, r2.dp e2, s1, s2, q _ H (.refl _ _) wd (.bl _)⟩
  · cases e
/-! ### ints, texts -/
def fI (g : Int → Int → T) : T → T → Option T | .int i, .int j => some (g i j) | _, _ => none
theorem o_I {g : Int → Int → V} {g' : Int → Int → T} (h : ∀ i j H, R K p H (g' i j) (g i j)) : Op2 K p (rI0 g) (fI g') := fun G n H x y z v w Q wd r1 r2 e q => by
  cases x <;> cases y <;> try cases e
  exact ⟨_, _, r1.int, r2.int, q _ H (.refl _ _) wd (h _ _ _)⟩
theorem o_addI : Op2 K p (rI0 fun i j => .int (i + j)) (fI fun i j => .int (i + j)) := o_I fun _ _ _ => .int _
theorem o_subI : Op2 K p (rI0 fun i j => .int (i - j)) (fI fun i j => .int (i - j)) := o_I fun _ _ _ => .int _
theorem o_lt : Op2 K p (rI0 fun i j => .bl (decide (i < j))) (fI fun i j => .bl (decide (i < j))) := o_I fun _ _ _ => .bl _
theorem o_le : Op2 K p (rI0 fun i j => .bl (decide (i ≤ j))) (fI fun i j => .bl (decide (i ≤ j))) := o_I fun _ _ _ => .bl _
theorem o_gt : Op2 K p (rI0 fun i j => .bl (decide (j < i))) (fI fun i j => .bl (decide (j < i))) := o_I fun _ _ _ => .bl _
theorem o_ge : Op2 K p (rI0 fun i j => .bl (decide (j ≤ i))) (fI fun i j => .bl (decide (j ≤ i))) := o_I fun _ _ _ => .bl _
def rAddS : R2 := fun x y H Q => ∃ i j, x = .str i ∧ y = .str j ∧ i.length + j.length ≤ sizeLine ∧ Q (.str (i ++ j)) H
def fAddS : T → T → Option T | .str i, .str j => if i.length + j.length ≤ sizeLine then some (.str (i ++ j)) else none | _, _ => none
theorem op_addS {X : Cx} : OpR X (binaryOp .Add) rAddS := op_add_str
theorem o_addS : Op2 K p rAddS fAddS := fun G n H x y z v w Q wd r1 r2 e q => by
  cases x <;> cases y <;> try cases e
  rename_i i j
  have e' : (if i.length + j.length ≤ sizeLine then some (T.str (i ++ j)) else none) = some z := e
  split at e'
  · cases e'
    exact ⟨_, _, r1.str, r2.str, by assumption, q _ H (.refl _ _) wd (.str _)⟩
  · cases e'
def fCat : T → T → Option T | .lst xs, .lst ys => if xs.length + ys.length ≤ sizeLine then some (.lst (xs ++ ys)) else none | _, _ => none
theorem o_cat : Op2N K p rCat fCat := fun G n H x y z v w Q wd r1 r2 e q => by
  cases x <;> cases y <;> try cases e
  rename_i xs ys
  have e' : (if xs.length + ys.length ≤ sizeLine then some (T.lst (xs ++ ys)) else none) = some z := e
  split at e'
  · rename_i hz
    cases e'
    obtain ⟨a, vs, rfl, h1, s1⟩ := r1.list
    obtain ⟨b, ws, rfl, h2, s2⟩ := r2.list
    exact ⟨a, b, vs, ws, rfl, rfl, h1, h2, by rw [s1.length, s2.length]; exact hz, fun c hc => q c _ (Kp.new hc) (wd.new hc) hc (.lst upd_same ((s1.app s2).newA wd hc))⟩
  · cases e'
/-- x in xs, flat things -/
def flatT : T → Bool | .non => true | .bl _ => true | .int _ => true | .str _ => true | _ => false
def toV : T → V | .non => .non | .bl b => .bl b | .int i => .int i | .str s => .str s | _ => .non
theorem flat_toV {t : T} {v : V} (f : flatT t = true) (r : RX K p G H t v) : v = toV t ∧ flatV v = true := by
  cases t <;> try cases f
  · obtain rfl := r.non; exact ⟨rfl, rfl⟩
  · obtain rfl := r.bl; exact ⟨rfl, rfl⟩
  · obtain rfl := r.int; exact ⟨rfl, rfl⟩
  · obtain rfl := r.str; exact ⟨rfl, rfl⟩
theorem flats_toV {ts : List T} {vs : List V} (f : ts.all flatT = true) (r : Rs K p (hid G H) ts vs) : vs = ts.map toV ∧ vs.all flatV = true := by
  induction ts generalizing vs with
  | nil => cases r; exact ⟨rfl, rfl⟩
  | cons t ts ih =>
    cases r with
    | cons h1 h2 =>
      rw [List.all_cons, Bool.and_eq_true_iff] at f
      obtain ⟨e1, f1⟩ := flat_toV (G := G) f.1 (.inl h1)
      obtain ⟨e2, f2⟩ := ih f.2 h2
      exact ⟨by rw [e1, e2]; rfl, by rw [List.all_cons, f1, f2]; rfl⟩
def inT (x : T) (ys : List T) : Bool := inV (toV x) (ys.map toV)
def fIn (neg : Bool) (x y : T) : Option T := match y with
  | .lst ys => if flatT x && ys.all flatT then some (.bl (if neg then !inT x ys else inT x ys)) else none
  | .tup ys => if flatT x && ys.all flatT then some (.bl (if neg then !inT x ys else inT x ys)) else none
  | _ => none
theorem o_in (neg : Bool) : Op2 K p (rIn K neg) (fIn neg) := fun G n H x y z v w Q wd r1 r2 e q => by
  cases y <;> try cases e
  case lst ys =>
    have e' : (if flatT x && ys.all flatT then some (T.bl (if neg then !inT x ys else inT x ys)) else none) = some z := e
    split at e'
    · rename_i hf
      obtain ⟨f1, f2⟩ := Bool.and_eq_true_iff.mp hf
      cases e'
      obtain ⟨b, ws, rfl, h2, s2⟩ := r2.list
      obtain ⟨ev, g1⟩ := flat_toV f1 r1
      obtain ⟨es, g2⟩ := flats_toV f2 s2
      refine ⟨b, ws, rfl, .inl (SqL.of h2), g1, g2, ?_⟩
      rw [ev, es]
      exact q _ H (.refl _ _) wd (.bl _)
    · cases e'
  case tup ys =>
    have e' : (if flatT x && ys.all flatT then some (T.bl (if neg then !inT x ys else inT x ys)) else none) = some z := e
    split at e'
    · rename_i hf
      obtain ⟨f1, f2⟩ := Bool.and_eq_true_iff.mp hf
      cases e'
      obtain ⟨b, ws, rfl, h2, s2⟩ := r2.tuple
      obtain ⟨ev, g1⟩ := flat_toV f1 r1
      obtain ⟨es, g2⟩ := flats_toV f2 s2
      refine ⟨b, ws, rfl, .inr h2, g1, g2, ?_⟩
      rw [ev, es]
      exact q _ H (.refl _ _) wd (.bl _)
    · cases e'
/-- a sign in a text -/
def fInS (neg : Bool) : T → T → Option T | .str x, .str z => (match x.cps.toList with | [c] => some (.bl (if neg then !decide (c ∈ z.cps.toList) else decide (c ∈ z.cps.toList))) | _ => none) | _, _ => none
theorem str_one {x : Str} {c : Nat} (h : x.cps.toList = [c]) : x = ⟨#[c]⟩ := by
  obtain ⟨a⟩ := x
  congr
  exact Array.toList_inj.mp h
theorem o_inS : Op2 K p rInS (fInS false) := fun G n H x y z v w Q wd r1 r2 e q => by
  cases x <;> cases y <;> try cases e
  rename_i x y
  have e' : (match x.cps.toList with | [c] => some (T.bl (if false then !decide (c ∈ y.cps.toList) else decide (c ∈ y.cps.toList))) | _ => none) = some z := e
  split at e'
  · rename_i c hc
    cases e'
    refine ⟨c, y, by rw [r1.str, str_one hc], r2.str, q _ H (.refl _ _) wd (.bl _)⟩
  · cases e'
theorem o_notInS : Op2 K p rNotInS (fInS true) := fun G n H x y z v w Q wd r1 r2 e q => by
  cases x <;> cases y <;> try cases e
  rename_i x y
  have e' : (match x.cps.toList with | [c] => some (T.bl (if true then !decide (c ∈ y.cps.toList) else decide (c ∈ y.cps.toList))) | _ => none) = some z := e
  split at e'
  · rename_i c hc
    cases e'
    refine ⟨c, y, by rw [r1.str, str_one hc], r2.str, q _ H (.refl _ _) wd (.bl _)⟩
  · cases e'
/-! ### items, slices -/
def fIxL : T → T → Option T | .lst xs, .int i => atI xs i | _, _ => none
def fIxT : T → T → Option T | .tup xs, .int i => atI xs i | _, _ => none
def fIxS : T → T → Option T | .str z, .int i => if z.length ≤ sizeLine then (atI z.cps.toList i).map fun c => .str ⟨#[c]⟩ else none | _, _ => none
theorem atI_len {α β : Type} {xs : List α} {ys : List β} {i : Int} {x : α} (hl : ys.length = xs.length) (e : atI xs i = some x) : ∃ (j : Nat) (y : β), xs[j]? = some x ∧ ys[j]? = some y ∧ atI ys i = some y := by
  unfold atI at e ⊢
  obtain ⟨j, e1, e2⟩ := Option.bind_eq_some_iff.mp e
  rw [hl, e1]
  have hj : j < ys.length := by rw [hl]; exact (List.getElem?_eq_some_iff.mp e2).1
  exact ⟨j, ys[j], e2, List.getElem?_eq_getElem hj, by simp [hj]⟩
theorem o_ixL : Op2 K p (rIxL K) fIxL := fun G n H x y z v w Q wd r1 r2 e q => by
  cases x <;> cases y <;> try cases e
  obtain ⟨a, vs, rfl, h1, s1⟩ := r1.list
  obtain ⟨j, u, e1, e2, e3⟩ := atI_len s1.length e
  obtain ⟨t, e4, r⟩ := s1.back e2
  rw [e1] at e4
  cases e4
  exact ⟨a, vs, _, u, rfl, r2.int, SqL.of h1, e3, q _ H (.refl _ _) wd r⟩
theorem o_ixT : Op2 K p (rIxT K) fIxT := fun G n H x y z v w Q wd r1 r2 e q => by
  cases x <;> cases y <;> try cases e
  obtain ⟨a, vs, rfl, h1, s1⟩ := r1.tuple
  obtain ⟨j, u, e1, e2, e3⟩ := atI_len s1.length e
  obtain ⟨t, e4, r⟩ := s1.back e2
  rw [e1] at e4
  cases e4
  exact ⟨a, vs, _, u, rfl, r2.int, h1, e3, q _ H (.refl _ _) wd r⟩
theorem o_ixS : Op2 K p rIxS fIxS := fun G n H x y z v w Q wd r1 r2 e q => by
  cases x <;> cases y <;> try cases e
  rename_i x i
  have e' : (if x.length ≤ sizeLine then (atI x.cps.toList i).map fun c => T.str ⟨#[c]⟩ else none) = some z := e
  split at e'
  · rename_i hz
    obtain ⟨c, e1, e2⟩ := Option.map_eq_some_iff.mp e'
    subst e2
    exact ⟨x, i, c, r1.str, r2.int, hz, e1, q _ H (.refl _ _) wd (.str _)⟩
  · cases e'
end
/-! ### parts of slices -/
abbrev WO := En → Nat → (Option Int → Nat → Prop) → Prop
structure EO (K : PySem.W.Frag) (p : Option Addr) (to : TO) (W : WO) : Prop where
  ev : ∀ (G : Addr → Prop) (ad : Nat → Addr) (E : En) (n : Nat) (σ : L2.St) (H : Hp) (Q : Option Int → Hp → Prop), Wld p G n H → RelE K p G ad E σ H →
    W E n (fun o m => ∀ H', Kp p H H' → Wld p G m H' → Q o H') → to σ H Q
  mo : ∀ E n k k', (∀ t m, k t m → k' t m) → W E n k → W E n k'
section
variable {K : PySem.W.Frag} {p : Option Addr} {te ta tb : TE} {to1 to2 : TO} {We : WE} {W1 W2 : WO}
def wPart (We : WE) : WO := fun E n k => We E n fun t m => match t with | .int i => k (some i) m | _ => False
def wNoPart : WO := fun _ n k => k none n
theorem eo_some (h : ET K p te We) : EO K p (tPart te) (wPart We) := ⟨fun G ad E n σ H Q w rl q => by
  refine h.ev G ad E n σ H _ w rl (h.mo _ _ _ _ (fun t m q v H1 k1 w1 r1 => ?_) q)
  cases t <;> try cases q
  exact ⟨_, r1.toInt, q H1 k1 w1⟩, fun E n k k' hk q => h.mo _ _ _ _ (fun t m q => by cases t <;> first | exact hk _ _ q | cases q) q⟩
theorem eo_none : EO K p (fun _ H Q => Q none H) wNoPart := ⟨fun G ad E n σ H Q w rl q => q H (.refl _ _) w, fun E n k k' hk q => hk _ _ q⟩
def cutT (xs : List T) (lo hi : Option Int) : List T := (xs.drop (HT.sIx xs.length 0 lo)).take (HT.sIx xs.length xs.length hi - HT.sIx xs.length 0 lo)
def wSlL (We : WE) (W1 W2 : WO) : WE := fun E n k => We E n fun t m => W1 E m fun lo m1 => W2 E m1 fun hi m2 => match t with | .lst xs => k (.lst (cutT xs lo hi)) m2 | _ => False
def wSlS (We : WE) (W1 W2 : WO) : WE := fun E n k => We E n fun t m => W1 E m fun lo m1 => W2 E m1 fun hi m2 => match t with | .str z => if z.length ≤ sizeLine then k (.str (cutS z lo hi)) m2 else False | _ => False
theorem Rs.drop {H : Hp} {ts : List T} {vs : List V} (h : Rs K p H ts vs) (i : Nat) : Rs K p H (ts.drop i) (vs.drop i) := by
  induction i generalizing ts vs with
  | zero => exact h
  | succ i ih =>
    cases h with
    | nil => exact .nil
    | cons h1 h2 => exact ih h2
theorem Rs.take {H : Hp} {ts : List T} {vs : List V} (h : Rs K p H ts vs) (i : Nat) : Rs K p H (ts.take i) (vs.take i) := by
  induction i generalizing ts vs with
  | zero => rw [List.take_zero, List.take_zero]; exact .nil
  | succ i ih =>
    cases h with
    | nil => exact .nil
    | cons h1 h2 => exact .cons h1 (ih h2)
theorem en_slL (ha : EX K p ta We) (h1 : EO K p to1 W1) (h2 : EO K p to2 W2) : EN K p (tSl (rSlL K) ta to1 to2) (wSlL We W1 W2) := ⟨fun G ad E n σ H Q w rl q => by
  refine ha.ev G ad E n σ H _ w rl (ha.mo _ _ _ _ (fun t m q v H1 k1 w1 r1 => ?_) q)
  refine h1.ev G ad E m σ H1 _ w1 (rl.kp w.hd k1) (h1.mo _ _ _ _ (fun lo m1 q H2 k2 w2 => ?_) q)
  refine h2.ev G ad E m1 σ H2 _ w2 ((rl.kp w.hd k1).kp w.hd k2) (h2.mo _ _ _ _ (fun hi m2 q H3 k3 w3 => ?_) q)
  cases t <;> try cases q
  obtain ⟨a, vs, rfl, h, s⟩ := ((r1.kp w.hd k2).kp w.hd k3).list
  refine ⟨a, vs, rfl, SqL.of h, fun b hb => q b _ ((k1.trans (k2.trans k3)).trans (Kp.new hb)) (w3.new hb) (k1.free w w1 (k2.free w1 w2 (k3.free w2 w3 hb))) (.lst upd_same ?_)⟩
  have e := s.length
  unfold cutV cutT
  rw [← e]
  exact ((s.drop _).take _).newA w3 hb, fun E n k k' hk q => ha.mo _ _ _ _ (fun t m q => h1.mo _ _ _ _ (fun lo m1 q => h2.mo _ _ _ _ (fun hi m2 q => by cases t <;> first | exact hk _ _ q | cases q) q) q) q⟩
theorem et_slS (ha : EX K p ta We) (h1 : EO K p to1 W1) (h2 : EO K p to2 W2) : ET K p (tSl rSlS ta to1 to2) (wSlS We W1 W2) := ⟨fun G ad E n σ H Q w rl q => by
  refine ha.ev G ad E n σ H _ w rl (ha.mo _ _ _ _ (fun t m q v H1 k1 w1 r1 => ?_) q)
  refine h1.ev G ad E m σ H1 _ w1 (rl.kp w.hd k1) (h1.mo _ _ _ _ (fun lo m1 q H2 k2 w2 => ?_) q)
  refine h2.ev G ad E m1 σ H2 _ w2 ((rl.kp w.hd k1).kp w.hd k2) (h2.mo _ _ _ _ (fun hi m2 q H3 k3 w3 => ?_) q)
  cases t <;> try cases q
  obtain ⟨hz, q⟩ := ite_get q
  exact ⟨_, r1.str, hz, q _ H3 (k1.trans (k2.trans k3)) w3 (.str _)⟩, fun E n k k' hk q => ha.mo _ _ _ _ (fun t m q => h1.mo _ _ _ _ (fun lo m1 q => h2.mo _ _ _ _ (fun hi m2 q => by cases t <;> first | exact ite_mono (hk _ _) q | cases q) q) q) q⟩
/-! ### built-ins by their arguments, methods of texts -/
inductive RXs (K : PySem.W.Frag) (p : Option Addr) (G : Addr → Prop) (H : Hp) : List T → List V → Prop
  | nil : RXs K p G H [] []
  | cons {t : T} {v : V} {ts : List T} {vs : List V} : RX K p G H t v → RXs K p G H ts vs → RXs K p G H (t :: ts) (v :: vs)
structure EAX (K : PySem.W.Frag) (p : Option Addr) (ta : TA) (W : WA) : Prop where
  ev : ∀ (G : Addr → Prop) (ad : Nat → Addr) (E : En) (n : Nat) (σ : L2.St) (H : Hp) (Q : List V → Hp → Prop), Wld p G n H → RelE K p G ad E σ H →
    W E n (fun ts m => ∀ vs H', Kp p H H' → Wld p G m H' → RXs K p G H' ts vs → Q vs H') → ta σ H Q
  mo : MonoA W
variable {tr : TA} {Wr : WA}
theorem eax_nil : EAX K p tNil aNil := ⟨fun G ad E n σ H Q w rl q => q [] H (.refl _ _) w .nil, fun E n k k' hk q => hk _ _ q⟩
theorem eax_cons (ha : EX K p ta We) (hr : EAX K p tr Wr) : EAX K p (tCons ta tr) (aCons We Wr) := ⟨fun G ad E n σ H Q w rl q => by
  refine ha.ev G ad E n σ H _ w rl (ha.mo _ _ _ _ (fun t m q v H1 k1 w1 r1 => ?_) q)
  refine hr.ev G ad E m σ H1 _ w1 (rl.kp w.hd k1) (hr.mo _ _ _ _ (fun ts m' q vs H2 k2 w2 r2 => ?_) q)
  exact q _ H2 (k1.trans k2) w2 (.cons (r1.kp w.hd k2) r2), fun E n k k' hk q => ha.mo _ _ _ _ (fun t m q => hr.mo _ _ _ _ (fun ts m' q => hk _ _ q) q) q⟩
def Cl (K : PySem.W.Frag) (p : Option Addr) (r : List V → Hp → VK → Prop) (f : List T → Option T) : Prop := ∀ (G : Addr → Prop) (n : Nat) (H : Hp) (ts : List T) (z : T) (vs : List V) (Q : VK), Wld p G n H → RXs K p G H ts vs → f ts = some z →
  (∀ u H', Kp p H H' → Wld p G n H' → R K p (hid G H') z u → Q u H') → r vs H Q
def ClN (K : PySem.W.Frag) (p : Option Addr) (r : List V → Hp → VK → Prop) (f : List T → Option T) : Prop := ∀ (G : Addr → Prop) (n : Nat) (H : Hp) (ts : List T) (z : T) (vs : List V) (Q : VK), Wld p G n H → RXs K p G H ts vs → f ts = some z →
  (∀ a H', Kp p H H' → Wld p G n H' → H a = none → Cont K p (hid (GA G a) H') H' a z → Q (.ref a) H') → r vs H Q
def wCl (f : List T → Option T) (Wr : WA) : WE := fun E n k => Wr E n fun ts m => opt (f ts) fun z => k z m
theorem et_cl {r : List V → Hp → VK → Prop} {f : List T → Option T} (hc : Cl K p r f) (ha : EAX K p tr Wr) : ET K p (tCB r tr) (wCl f Wr) := ⟨fun G ad E n σ H Q w rl q => by
  refine ha.ev G ad E n σ H _ w rl (ha.mo _ _ _ _ (fun ts m q vs H1 k1 w1 r1 => ?_) q)
  obtain ⟨z, e, q⟩ := opt_some q
  exact hc G m H1 ts z vs Q w1 r1 e fun u H2 k2 w2 r2 => q u H2 (k1.trans k2) w2 r2, fun E n k k' hk q => ha.mo _ _ _ _ (fun ts m q => opt_mono (fun z q => hk _ _ q) q) q⟩
theorem en_cl {r : List V → Hp → VK → Prop} {f : List T → Option T} (hc : ClN K p r f) (ha : EAX K p tr Wr) : EN K p (tCB r tr) (wCl f Wr) := ⟨fun G ad E n σ H Q w rl q => by
  refine ha.ev G ad E n σ H _ w rl (ha.mo _ _ _ _ (fun ts m q vs H1 k1 w1 r1 => ?_) q)
  obtain ⟨z, e, q⟩ := opt_some q
  exact hc G m H1 ts z vs Q w1 r1 e fun u H2 k2 w2 n2 r2 => q u H2 (k1.trans k2) w2 (k1.free w w1 n2) r2, fun E n k k' hk q => ha.mo _ _ _ _ (fun ts m q => opt_mono (fun z q => hk _ _ q) q) q⟩
/-- a text's method with one argument -/
def Mt (K : PySem.W.Frag) (p : Option Addr) (r : V → List V → Hp → VK → Prop) (f : Str → T → Option T) : Prop := ∀ (G : Addr → Prop) (n : Nat) (H : Hp) (x : Str) (y z : T) (w : V) (Q : VK), Wld p G n H → RX K p G H y w → f x y = some z →
  (∀ u H', Kp p H H' → Wld p G n H' → R K p (hid G H') z u → Q u H') → r (.str x) [w] H Q
def MtN (K : PySem.W.Frag) (p : Option Addr) (r : V → List V → Hp → VK → Prop) (f : Str → T → Option T) : Prop := ∀ (G : Addr → Prop) (n : Nat) (H : Hp) (x : Str) (y z : T) (w : V) (Q : VK), Wld p G n H → RX K p G H y w → f x y = some z →
  (∀ a H', Kp p H H' → Wld p G n H' → H a = none → Cont K p (hid (GA G a) H') H' a z → Q (.ref a) H') → r (.str x) [w] H Q
def wM1 (f : Str → T → Option T) (Wa Wb : WE) : WE := fun E n k => Wa E n fun x m => match x with | .str s => Wb E m fun y m' => opt (f s y) fun z => k z m' | _ => False
variable {Wa Wb : WE}
theorem et_m1 {r : V → List V → Hp → VK → Prop} {f : Str → T → Option T} (hc : Mt K p r f) (ha : EX K p ta Wa) (hb : EX K p tb Wb) : ET K p (tM1 r ta tb) (wM1 f Wa Wb) := ⟨fun G ad E n σ H Q w rl q => by
  refine ha.ev G ad E n σ H _ w rl (ha.mo _ _ _ _ (fun x m q v H1 k1 w1 r1 => ?_) q)
  cases x <;> try cases q
  rename_i s
  have ev := r1.str
  subst ev
  refine ⟨⟨s, rfl⟩, hb.ev G ad E m σ H1 _ w1 (rl.kp w.hd k1) (hb.mo _ _ _ _ (fun y m' q u H2 k2 w2 r2 => ?_) q)⟩
  obtain ⟨z, e, q⟩ := opt_some q
  exact hc G m' H2 s y z u Q w2 r2 e fun u' H3 k3 w3 r3 => q u' H3 (k1.trans (k2.trans k3)) w3 r3, fun E n k k' hk q => ha.mo _ _ _ _ (fun x m q => by
  cases x <;> try cases q
  exact hb.mo _ _ _ _ (fun y m' q => opt_mono (fun z q => hk _ _ q) q) q) q⟩
theorem en_m1 {r : V → List V → Hp → VK → Prop} {f : Str → T → Option T} (hc : MtN K p r f) (ha : EX K p ta Wa) (hb : EX K p tb Wb) : EN K p (tM1 r ta tb) (wM1 f Wa Wb) := ⟨fun G ad E n σ H Q w rl q => by
  refine ha.ev G ad E n σ H _ w rl (ha.mo _ _ _ _ (fun x m q v H1 k1 w1 r1 => ?_) q)
  cases x <;> try cases q
  rename_i s
  have ev := r1.str
  subst ev
  refine ⟨⟨s, rfl⟩, hb.ev G ad E m σ H1 _ w1 (rl.kp w.hd k1) (hb.mo _ _ _ _ (fun y m' q u H2 k2 w2 r2 => ?_) q)⟩
  obtain ⟨z, e, q⟩ := opt_some q
  exact hc G m' H2 s y z u Q w2 r2 e fun u' H3 k3 w3 n3 r3 => q u' H3 (k1.trans (k2.trans k3)) w3 (k1.free w w1 (k2.free w1 w2 n3)) r3, fun E n k k' hk q => ha.mo _ _ _ _ (fun x m q => by
  cases x <;> try cases q
  exact hb.mo _ _ _ _ (fun y m' q => opt_mono (fun z q => hk _ _ q) q) q) q⟩
end
end Tr
/-! ## SlSet -/
set_option Elab.async false
set_option linter.all false
set_option maxRecDepth 100000
set_option maxHeartbeats 4000000
/-! a set of texts of any length: made of a list, sorted -/
namespace Sl
open PySem PySem.Spec PyProof.Rows L2
def strOf : Value → Str
  | .str x _ => x
  | _ => ""
def mem0 (D : Froz.SD) : List Str := D.1.toList.map fun e => strOf e.2
/-- the payload holds the texts l, and can be walked -/
structure TxS (P : Program) (w : World) (D : Froz.SD) (l : List Str) : Prop where
  ok : Froz.TxOk P w D l
  pm : (mem0 D).Perm l
  ris : Ris D.2.2.place.toList
  led : w.params.followText "set-order" = true ∨ D.2.2.led = true
abbrev setNew (w : World) : Froz.SD := (#[], 0, .fresh 0 0 (!w.params.followText "set-order"))
section
variable {P : Program} {w : World} {A : Around} {E : Value → Shared → Prop} {s : Shared}
theorem TxS.zero : TxS P w (setNew w) [] := ⟨Froz.TxOk.nil rfl, List.Perm.refl _, List.Pairwise.nil, by
  cases h : w.params.followText "set-order"
  · exact .inr (by show (!w.params.followText "set-order") = true; rw [h]; rfl)
  · exact .inl rfl⟩
theorem mem0_tail {ep : Nat} {es : Array (Int × Value)} {t : SetTable} {d : Bool} {l : List Str} (pm : (es.toList.map fun e => strOf e.2).Perm l) (hr : Ris t.place.toList) (hl : w.params.followText "set-order" = true ∨ t.led = true) :
    (mem0 (Froz.tailTx ep es t d)).Perm l ∧ Ris (Froz.tailTx ep es t d).2.2.place.toList ∧ (w.params.followText "set-order" = true ∨ (Froz.tailTx ep es t d).2.2.led = true) := by
  unfold Froz.tailTx
  split
  · exact ⟨((relayAll_perm t es (SetTable.grown es.size)).map _).trans pm, relayAll_ris .., hl.imp id fun h => (relayAll_led ..).trans h⟩
  · exact ⟨pm, hr, hl⟩
theorem TxS.more {D : Froz.SD} {l : List Str} (T : TxS P w D l) (k : Str) (u : Tok) : TxS P w (Froz.addTx (hashStr w k) (.str k u) D) (k :: l) := by
  obtain ⟨es, ep, t⟩ := D
  obtain ⟨o, pm, hr, hl⟩ := T
  have p1 : ((layNew t es (hashStr w k) (.str k u)).1.toList.map fun e => strOf e.2).Perm (k :: l) := by
    have p0 := (layNew_perm t es (hashStr w k) (.str k u)).map fun e => strOf e.2
    rw [Array.toList_push, List.map_append] at p0
    exact (p0.trans List.perm_append_comm).trans (List.Perm.cons k pm)
  have r1 := layNew_ris t es (hashStr w k) (.str k u) hr
  have l1 : w.params.followText "set-order" = true ∨ (layNew t es (hashStr w k) (.str k u)).2.1.led = true := hl.imp id fun h => (layNew_led ..).trans h
  have z := mem0_tail (w := w) (ep := ep) (d := (layNew t es (hashStr w k) (.str k u)).2.2.1) (t := if (layNew t es (hashStr w k) (.str k u)).2.1.plain = true then { (layNew t es (hashStr w k) (.str k u)).2.1 with plain := false } else (layNew t es (hashStr w k) (.str k u)).2.1) p1 (by split <;> exact r1) (by split <;> exact l1)
  exact ⟨Froz.add_ok u o, z.1, z.2.1, z.2.2⟩
theorem is_shape {k : Str} {v : Value} (h : (strKind P w).is k v = true) : ∃ u, v = .str k u := Value.isStrOf_shape (x := k) (v := v) h
theorem TxS.strs {D : Froz.SD} {l : List Str} (T : TxS P w D l) : ∀ v ∈ D.1.toList.map (·.2), ∃ x u, v = Value.str x u := fun v hv => by
  obtain ⟨e, he, rfl⟩ := List.mem_map.mp hv
  obtain ⟨⟨k, h, _⟩, _⟩ := T.ok.el e he
  obtain ⟨u, e2⟩ := is_shape (P := P) (w := w) h
  exact ⟨k, u, e2⟩
theorem strsAre_of : ∀ {vs : List Value}, (∀ v ∈ vs, ∃ x u, v = Value.str x u) → StrsAre vs (vs.map strOf)
  | [], _ => .nil
  | v :: r, h => by
    obtain ⟨x, u, rfl⟩ := h v List.mem_cons_self
    exact .cons x u (strsAre_of fun y hy => h y (List.mem_cons_of_mem _ hy))
/-- one more text -/
theorem tx_add {a : Addr} {D : Froz.SD} {l : List Str} {k : Str} {u : Tok} {Q : Bool → Shared → Prop} (ho : s.heap.get? a = some (Froz.sObj "set" D)) (T : TxS P w D l) (hb : l.length + 1 < scanBound)
    (h : ∀ (b : Bool) (h' : Heap) (D' : Froz.SD) (l' : List Str), Heap.SameBut a s.heap h' → h'.get? a = some (Froz.sObj "set" D') → TxS P w D' l' → l' = (if k ∈ l then l else k :: l) → Q b { s with heap := h' }) :
    wpAny (model P w) A (setAddHashed a (.str k u) (hashStr w k)) Q E s := by
  by_cases hk : k ∈ l
  · obtain ⟨es, ep, t⟩ := D
    have F := T.ok
    have hd : (Froz.sObj "set" (es, ep, t)).data = .set es ep t := rfl
    have hsz : es.size = l.length := F.sz
    have hi : (strKind P w).is k (.str k u) = true := Froz.is_str k u
    have q := h false s.heap (es, ep, t) l (Heap.SameBut.refl a s.heap) ho T (by rw [if_pos hk])
    unfold setAddHashed setAddHashedIn
    refine wpAny_holding (wpAny_bind (wpAny_setState_of ho hd F.fit ?_))
    dsimp only
    rw [byScan_of rfl (show es.size < scanBound by omega) F.el, if_pos rfl]
    unfold setAddByScan
    refine wpAny_bind (wpAny_bind (wpAny_rule (wpAny_bind (wpAny_setScan_of (knd := strKind P w) (k := k) hi ho hd F.fit F.el ?_))))
    cases hf : List.findIdx? (fun e => (strKind P w).is k e.2) es.toList with
    | none =>
      obtain ⟨e, he, hh⟩ := (F.mem k).mp hk
      have := List.findIdx?_eq_none_iff.mp hf e he
      rw [hh] at this
      cases this
    | some j => exact wpAny_pure (wpAny_pure q)
  · refine Froz.add_x ho T.ok hk hb ?_
    exact h true _ _ (k :: l) (Heap.SameBut.update s.heap a _) (Froz.get_upd _ ho rfl) (T.more k u) (by rw [if_neg hk])
/-- what has been met of a list -/
def dd (xs : List Str) (i : Nat) : List Str := (xs.take i).foldl (fun l k => if k ∈ l then l else k :: l) []
theorem dd_succ {xs : List Str} {i : Nat} {k : Str} (h : xs[i]? = some k) : dd xs (i + 1) = if k ∈ dd xs i then dd xs i else k :: dd xs i := by
  unfold dd
  rw [List.take_succ, h, List.foldl_append]
  rfl
theorem dd_len (xs : List Str) : ∀ i, (dd xs i).length ≤ i
  | 0 => Nat.le_refl _
  | i + 1 => by
    have ih := dd_len xs i
    cases h : xs[i]? with
    | none =>
      have e : dd xs (i + 1) = dd xs i := by
        unfold dd
        rw [List.take_succ, h]
        simp
      rw [e]
      omega
    | some k =>
      rw [dd_succ h]
      split
      · omega
      · rw [List.length_cons]
        omega
theorem dd_nodup (xs : List Str) : ∀ i, (dd xs i).Nodup
  | 0 => List.nodup_nil
  | i + 1 => by
    have ih := dd_nodup xs i
    cases h : xs[i]? with
    | none =>
      have e : dd xs (i + 1) = dd xs i := by
        unfold dd
        rw [List.take_succ, h]
        simp
      rw [e]
      exact ih
    | some k =>
      rw [dd_succ h]
      split
      · exact ih
      · exact List.nodup_cons.mpr ⟨by assumption, ih⟩
theorem dd_mem (xs : List Str) (x : Str) : ∀ i, x ∈ dd xs i ↔ x ∈ xs.take i
  | 0 => Iff.rfl
  | i + 1 => by
    have ih := dd_mem xs x i
    cases h : xs[i]? with
    | none =>
      have e : dd xs (i + 1) = dd xs i := by
        unfold dd
        rw [List.take_succ, h]
        simp
      rw [e, ih, List.take_succ, h]
      simp
    | some k =>
      rw [dd_succ h, List.take_succ, h, List.mem_append, ← ih]
      split
      · rename_i hk
        refine ⟨.inl, fun z => z.elim id fun z => ?_⟩
        have : x = k := by simpa using z
        rw [this]
        exact hk
      · rw [List.mem_cons, Or.comm]
        simp
theorem tx_loop {I : Addr} {fp wr : List Addr} {G : Array GenState → Array GenState → Prop} {n : Nat} {Pv : Nat → Value → Prop} {St : Nat → Shared → Prop} {R : Result → Shared → Prop}
    (W : WalksS P w A.in1 I fp wr G n Pv St) (S : Addr) (nf : S ∉ fp) (xs : List Str) (en : n = xs.length) (hb : xs.length + 1 < scanBound) (hv : ∀ i v, Pv i v → ∃ k t, xs[i]? = some k ∧ v = .str k t)
    (fin : ∀ s1 s' D, Moved (S :: wr) G s1 s' → s'.heap.get? S = some (Froz.sObj "set" D) → TxS P w D (dd xs n) → s1 = s → R (.ok (.ret .none)) s') :
    ∀ (m i : Nat) (s1 : Shared), n - i = m → i ≤ n → St i s1 → (i = 0 → s1 = s) → (i ≠ 0 → Moved (S :: wr) G s s1) → (∃ D, s1.heap.get? S = some (Froz.sObj "set" D) ∧ TxS P w D (dd xs i)) → codeAny (model P w) A (.builtin "set.update.loop" ⟨[.ref S, .ref I], []⟩) R s1
  | 0, i, s1, hm, hi, hst, z0, z1, ⟨D, hD, T⟩ => by
    obtain rfl : i = n := by omega
    have nw : S ∉ wr := fun h => nf (W.sub _ h)
    refine codeAny_builtin PyProof.Rows.F.entry_set_update_loop ?_; rw [Around.under_plainId PyProof.Rows.F.plain_set_update_loop _]
    show wpAny _ A.in1 (pyNext (.ref I) >>= _) _ _ s1; refine wpAny_bind (W.done s1 _ _ hst fun s2 hm2 => wpAny_pure ?_)
    have g2 := hm2.heap S _ nw hD
    have m2 : Moved (S :: wr) G s1 s2 := hm2.mono fun b hb => List.mem_cons_of_mem _ hb
    by_cases e : i = 0
    · exact fin s1 s2 D m2 g2 T (z0 e)
    · exact fin s s2 D (Moved.trans W.gtrans (z1 e) m2) g2 T rfl
  | m + 1, i, s1, hm, hi, hst, z0, z1, ⟨D, hD, T⟩ => by
    have lt : i < n := by omega
    have nw : S ∉ wr := fun h => nf (W.sub _ h)
    refine codeAny_builtin PyProof.Rows.F.entry_set_update_loop ?_; rw [Around.under_plainId PyProof.Rows.F.plain_set_update_loop _]
    show wpAny _ A.in1 (pyNext (.ref I) >>= _) _ _ s1; refine wpAny_bind (W.item i s1 _ _ lt hst fun v s2 hp hst2 hm2 => ?_)
    obtain ⟨k, t, hk, rfl⟩ := hv i v hp
    refine wpAny_bind (m := holding [Value.str k t] (setAdd S (.str k t))) (wpAny_holding ?_)
    unfold setAdd
    refine wpAny_holding (wpAny_bind ((strKind P w).pyHash (k := k) (Froz.is_str k t) ?_))
    have hl : (dd xs i).length + 1 < scanBound := by
      have := dd_len xs i
      omega
    refine tx_add (s := { s2 with toks := s2.toks + 1 }) (hm2.heap S _ nw hD) T hl fun b h' D' l' hsb hD' T' el => ?_
    rw [← dd_succ hk] at el
    subst el
    have m2 : Moved (S :: wr) G s1 { s2 with heap := h', toks := s2.toks + 1 } := (hm2.mono fun b hb => List.mem_cons_of_mem _ hb).then_heap (Nat.le_succ _) fun b o hb e => by
      rw [hsb.2 b fun h : b = S => hb (by rw [h]; exact List.mem_cons_self)]
      exact e
    refine wpAny_pure ⟨plainId_quiet PyProof.Rows.F.plain_set_update_loop _, tx_loop W S nf xs en hb hv fin m (i + 1) _ (by omega) lt (W.frame _ s2 _ _ hst2 (Nat.le_succ _) fun b hb o e => ?_) (fun z => by omega) (fun _ => ?_) ⟨D', hD', T'⟩⟩
    · rw [hsb.2 b fun h : b = S => nf (by rw [← h]; exact hb)]
      exact e
    · by_cases e : i = 0
      · rw [← z0 e]
        exact m2
      · exact Moved.trans W.gtrans (z1 e) m2
end
end Sl
/-! ## SlOps -/
set_option Elab.async false
set_option linter.all false
set_option maxRecDepth 100000
set_option maxHeartbeats 4000000
/-! an own class's ==, != and the operators that it defines, whatever they answer -/
namespace Sl
open PySem PySem.Spec PyProof.Rows L2
section
variable {prog : Program} {w : World} {A : Around} {E : Value → Shared → Prop} {s : Shared} {K : PySem.W.Frag} {x C L f : Addr} {h₀ : Heap} {m : Str → Option Value} {ox : Obj} {od : Option Obj} {b tb : Value}
theorem ne_entry {Q : Fin → Shared → Prop} (X : K.In s.heap) (I : PySem.W.InstAt s.heap x ox C od) (hs : PySem.W.findIn K (.ref C) "__eq__" = some (some (.ref f))) (hf : PySem.W.isFn K (.ref f) = true) (hu : A.units < cLine)
    (h : wpAny (model prog w) A (call (.ref f) [.ref x, b]) (fun v s' => ∃ c, v = .bool c ∧ Q (.done (.ret (.bool (!c)))) s') E s) : wpAny (model prog w) A (Builtin.«object.__ne__» ⟨[.ref x, b], []⟩) Q E s := by
  unfold Builtin.«object.__ne__»
  repeat (first
    | with_reducible refine wpAny_cRoomFor hu ?_
    | (refine wpAny_bind (m := callSpecialIfBound? (.ref x) (Str.ofString "__eq__") [b])
        (PySem.W.ifBound_K X I hs hf (wpAny_mono h (fun r s' hr => by
          obtain ⟨c, rfl, hq⟩ := hr
          repeat (first | exact hq | exact wpAny_pure hq | exact wpAny_truthy_bool hq | (refine wpAny_bind (m := truthy (.bool _)) (wpAny_truthy_bool ?_)) | wp_step)) fun _ _ e => e)))
    | wp_step)
theorem ifBound_B {M : Model} {name : Str} {id : String} {args : List Value} {Q : Option Value → Shared → Prop} (X : K.In s.heap) (I : PySem.W.InstAt s.heap x ox C od) (hs : PySem.W.findIn K (.ref C) name = some (some (.builtin id))) (hb : bindSpecial (.builtin id) (.ref x) = pure (.builtin id, [.ref x]))
    (h : wpAny M A (call (.builtin id) (.ref x :: args)) (fun v => Q (some v)) E s) : wpAny M A (callSpecialIfBound? (.ref x) name args) Q E s := by
  simp only [callSpecialIfBound?, bindSpecialIfBound?]
  refine wpAny_holding (wpAny_bind (wpAny_bind (wpAny_bind (I.type.here ((PySem.W.looks_findIn X hs).here ?_)))))
  refine wpAny_bind (wpAny_askSetting (wpAny_ite ?_))
  have fin : wpAny M A (call (.builtin id) ([.ref x] ++ args) >>= fun v => pure (some v)) Q E s := wpAny_bind (wpAny_mono h (fun v s' h' => wpAny_pure h') fun _ _ h' => h')
  rw [hb]
  split
  · exact wpAny_bind (wpAny_pure (wpAny_pure (by exact fin)))
  · exact wpAny_tryCatch (wpAny_bind (wpAny_pure (wpAny_pure (by exact fin))))
theorem ne_K {Q : Value → Shared → Prop} (hu : A.units + 1 < cLine) (X : K.In s.heap) (I : PySem.W.InstAt s.heap x ox C od) (hb : PySem.W.Looks (model prog w) s.heap (typeOf b) tb) (hn : PySem.W.notFirst K C tb = true)
    (hs : PySem.W.findIn K (.ref C) "__eq__" = some (some (.ref f))) (hf : PySem.W.isFn K (.ref f) = true) (hne : PySem.W.findIn K (.ref C) "__ne__" = some (some (.builtin "object.__ne__"))) (ho : PySem.W.subIn K (.ref C) (.type "object") = some true)
    (h : wpAny (model prog w) A.in1 (call (.ref f) [.ref x, b]) (fun v s' => ∃ c, v = .bool c ∧ Q (.bool (!c)) s') E s) : wpAny (model prog w) A (richCompare .NotEq (.ref x) b) Q E s := by
  have one : wpAny (model prog w) A (tryCompare (.ref x) "__ne__" b) (fun r s' => ∃ v, r = some v ∧ Q v s') E s := by
    unfold tryCompare
    refine wpAny_bind (ifBound_B X I hne (F.cmp_object.ne.bind (.ref x)) (wpAny_call (codeAny_call_builtin F.cmp_object.ne.plain F.cmpEntry_ne
      (PySem.W.check_slot F.cmpKind_ne F.cmpSplit_ne (I.type.andThen (PySem.W.looks_subIn X ho)) (F.cmpArgs_ne _ _) (ne_entry (A := A.in1) X I hs hf hu (wpAny_mono h (fun v s' hv => ?_) fun _ _ e => e))))))
    obtain ⟨c, rfl, hq⟩ := hv
    first | exact ⟨c, rfl, wpAny_pure ⟨_, rfl, hq⟩⟩ | exact ⟨c, rfl, _, rfl, hq⟩ | exact ⟨c, rfl, wpAny_pure (wpAny_pure ⟨_, rfl, hq⟩)⟩
  unfold richCompare
  simp only [oneThing_ref]
  refine wpAny_holding (wpAny_bind (wpAny_cRoomFor (Nat.lt_of_succ_lt hu) ?_))
  rw [cmpInfo_NotEq]
  dsimp only
  refine wpAny_bind (I.type.here (wpAny_bind (hb.here ?_)))
  split
  · rename_i q
    have e : PySem.W.subIn K tb (.ref C) = some false := by
      rcases Bool.or_eq_true_iff.mp hn with e | e
      · rw [beq_iff_eq.mp e] at q; simp at q
      · exact beq_iff_eq.mp e
    refine wpAny_bind ((PySem.W.looks_subIn X e).here ?_)
    simp only [Bool.false_eq_true, if_false]
    refine wpAny_bind (wpAny_mono one (fun r s' z => ?_) fun _ _ e => e)
    obtain ⟨v, rfl, hq⟩ := z
    exact wpAny_pure hq
  · refine wpAny_bind (wpAny_pure ?_)
    simp only [Bool.false_eq_true, if_false]
    refine wpAny_bind (wpAny_mono one (fun r s' z => ?_) fun _ _ e => e)
    obtain ⟨v, rfl, hq⟩ := z
    exact wpAny_pure hq
end
/-! ### the rules -/
/-- the type of the right one: the class C itself, or one that C is not of -/
def rightT (K : PySem.W.Frag) (C : Addr) (H : Hp) (y : V) : Prop := (∃ (a dx : Addr) (fs : List (Str × V)), y = .ref a ∧ H a = some (.ins C dx fs)) ∨ ∃ t, TyX K H y t ∧ PySem.W.notFirst K C t = true
/-- x == y, x != y by the own == of the left one, which lets no exception out -/
def rOwnEq (K : PySem.W.Frag) (C : Addr) (sp : Sp) : R2 := fun x y H Q => ∃ (a dx : Addr) (fs : List (Str × V)), x = .ref a ∧ H a = some (.ins C dx fs) ∧ rightT K C H y ∧ sp [.ref a, y] H (fun v H' => ∃ c, v = .bl c ∧ Q (.bl c) H') (fun _ _ _ => False)
def rOwnNe (K : PySem.W.Frag) (C : Addr) (sp : Sp) : R2 := fun x y H Q => ∃ (a dx : Addr) (fs : List (Str × V)), x = .ref a ∧ H a = some (.ins C dx fs) ∧ rightT K C H y ∧ sp [.ref a, y] H (fun v H' => ∃ c, v = .bl c ∧ Q (.bl (!c)) H') (fun _ _ _ => False)
/-- an operator of two instances of C by the own def of the left one -/
def rOwnOp (C : Addr) (sp : Sp) : R2 := fun x y H Q => ∃ (a dx : Addr) (fs : List (Str × V)) (b dy : Addr) (gs : List (Str × V)), x = .ref a ∧ H a = some (.ins C dx fs) ∧ y = .ref b ∧ H b = some (.ins C dy gs) ∧ sp [.ref a, .ref b] H Q (fun _ _ _ => False)
section
variable {X : Cx} {CX : CXT} {k : Nat} {C f : Addr} {fd : FuncData} {ps : List Str} {sp : Sp}
theorem right_looks {pins : List (Addr × Obj)} {σ : L2.St} {H : Hp} {s : Shared} {y : V} {u : Value} (I : Inv X pins σ H s) (ry : RelV y u) (h : rightT X.K C H y) : ∃ tb, PySem.W.Looks (model X.prog X.w) s.heap (typeOf u) tb ∧ PySem.W.notFirst X.K C tb = true := by
  rcases h with ⟨a, dx, fs, rfl, ha⟩ | ⟨t, ht, hn⟩
  · cases ry
    obtain ⟨mA, J, _⟩ := ins_get I.hok ha
    obtain ⟨od, J, _⟩ := J.look
    exact ⟨_, J.type, by simp [PySem.W.notFirst]⟩
  · obtain ⟨P, KX, hp, _⟩ := kit_of I ry ht
    exact ⟨t, KX.ty _ _ I.kIn hp, hn⟩
theorem call_at {A : Around} {pins : List (Addr × Obj)} {σ : L2.St} {H : Hp} {s : Shared} {x y : V} {u v : Value} {Q : VK} (F : FnOk X.prog X.w X.K X.mg X.base CX k f fd ps sp) (hr : Room k A) (hfr : A.frames = X.A.frames) (hb : Binds X.K fd ps []) (hx : Passes CX X (fun _ _ _ => False)) (I : Inv X pins σ H s)
    (rx : RelV x v) (ry : RelV y u) (h : sp [x, y] H Q (fun _ _ _ => False)) : wpAny (model X.prog X.w) A (call (.ref f) [v, u]) (fun r s' => ∃ z H', Inv X pins σ H' s' ∧ RelV z r ∧ Q z H') X.xe s := by
  have e0 : Env0 X.prog X.w X.K X.mg X.base A X.stack s H := by
    have e := I.env0
    exact ⟨by rw [hfr]; exact e.frames, e.mod, e.bs, e.bsz, e.funs, e.frf, e.hok, e.bare⟩
  have hl := F.len _ _ _ _ h
  have r2 : Vals [x, y] [v, u] := .cons rx (.cons ry .nil)
  refine wpAny_call (codeAny_mono (F.run A X.stack s H ⟨[v, u], []⟩ [v, u] [x, y] _ _ hr e0 (by
    have := hb s [v, u] I.kIn (by simpa using hl)
    simpa using this) r2 h) fun r s' hq => ?_)
  cases r with
  | error e => exact hx pins σ H s e s' I hq
  | ok fl =>
    cases fl with
    | ret w =>
      obtain ⟨z, H', I', rz, q⟩ := I.after hq
      exact ⟨z, H', I', rz, q⟩
    | next => exact False.elim hq
    | brk => exact False.elim hq
    | cont => exact False.elim hq
theorem op_ownEq (F : FnOk X.prog X.w X.K X.mg X.base CX k f fd ps sp) (hs : PySem.W.findIn X.K (.ref C) "__eq__" = some (some (.ref f))) (hf : PySem.W.isFn X.K (.ref f) = true) (hb : Binds X.K fd ps []) (hx : Passes CX X (fun _ _ _ => False)) (hr : Room k X.A) :
    OpR X (compareOp .Eq) (rOwnEq X.K C sp) := by
  intro pins s σ H x y v u Q I rx ry h
  obtain ⟨a, dx, fs, rfl, ha, hy, q⟩ := h
  cases (show v = Value.ref a from rx)
  obtain ⟨mA, J, _⟩ := ins_get I.hok ha
  obtain ⟨od, J, _⟩ := J.look
  obtain ⟨tb, hT, hn⟩ := right_looks I ry hy
  obtain ⟨m, hF⟩ := I.fr
  show wpAny (model X.prog X.w) X.A (richCompare .Eq (.ref a) u) (EP X pins σ Q) X.xe s
  refine PySem.W.cmp_K (op := .Eq) (tb := tb) hr.units0 hF I.ok.mod.kin J hT hn hs hf ?_
  refine wpAny_mono (call_at F hr rfl hb hx I (x := .ref a) rfl ry q) (fun r s' z => ?_) fun _ _ x => x
  obtain ⟨z, H', I', rz, c, ez, q'⟩ := z
  subst ez
  cases rz
  exact ⟨.bl c, H', I', rfl, q'⟩
theorem op_ownNe (F : FnOk X.prog X.w X.K X.mg X.base CX k f fd ps sp) (hs : PySem.W.findIn X.K (.ref C) "__eq__" = some (some (.ref f))) (hf : PySem.W.isFn X.K (.ref f) = true) (hne : PySem.W.findIn X.K (.ref C) "__ne__" = some (some (.builtin "object.__ne__")))
    (ho : PySem.W.subIn X.K (.ref C) (.type "object") = some true) (hb : Binds X.K fd ps []) (hx : Passes CX X (fun _ _ _ => False)) (hr : Room (k + 1) X.A) : OpR X (compareOp .NotEq) (rOwnNe X.K C sp) := by
  intro pins s σ H x y v u Q I rx ry h
  obtain ⟨a, dx, fs, rfl, ha, hy, q⟩ := h
  cases (show v = Value.ref a from rx)
  obtain ⟨mA, J, _⟩ := ins_get I.hok ha
  obtain ⟨od, J, _⟩ := J.look
  obtain ⟨tb, hT, hn⟩ := right_looks I ry hy
  show wpAny (model X.prog X.w) X.A (richCompare .NotEq (.ref a) u) (EP X pins σ Q) X.xe s
  refine ne_K (tb := tb) (by have := hr.units; omega) I.kIn J hT hn hs hf hne ho ?_
  refine wpAny_mono (call_at F hr.in1 rfl hb hx I (x := .ref a) rfl ry q) (fun r s' z => ?_) fun _ _ x => x
  obtain ⟨z, H', I', rz, c, ez, q'⟩ := z
  subst ez
  cases rz
  exact ⟨c, rfl, .bl (!c), H', I', rfl, q'⟩
theorem op_ownOp {op : Operator} (F : FnOk X.prog X.w X.K X.mg X.base CX k f fd ps sp) (hs : PySem.W.findIn X.K (.ref C) (PySem.dunder op.info.2) = some (some (.ref f))) (hf : PySem.W.isFn X.K (.ref f) = true) (hc : PySem.W.selfFirst X.K C = true) (hb : Binds X.K fd ps [])
    (hx : Passes CX X (fun _ _ _ => False)) (hr : Room k X.A) : OpR X (binaryOp op) (rOwnOp C sp) := by
  intro pins s σ H x y v u Q I rx ry h
  obtain ⟨a, dx, fs, b, dy, gs, rfl, ha, rfl, hb', q⟩ := h
  cases (show v = Value.ref a from rx)
  cases (show u = Value.ref b from ry)
  obtain ⟨mA, J, _⟩ := ins_get I.hok ha
  obtain ⟨od, J, _⟩ := J.look
  obtain ⟨mB, J', _⟩ := ins_get I.hok hb'
  obtain ⟨od', J', _⟩ := J'.look
  obtain ⟨m, hF⟩ := I.fr
  refine PySem.W.binop_K hF I.ok.mod.kin J J'.type hc hs hf ?_
  refine wpAny_mono (call_at F hr rfl hb hx I (x := .ref a) (y := .ref b) rfl rfl q) (fun r s' z => ?_) fun _ _ x => x
  obtain ⟨z, H', I', rz, q'⟩ := z
  have fin : EP X pins σ Q r s' := ⟨z, H', I', rz, q'⟩
  cases z with
  | non => cases (show r = Value.none from rz); exact fin
  | bl c => cases (show r = Value.bool c from rz); exact fin
  | int i => obtain ⟨t, rfl⟩ := (show ∃ t, r = Value.int i t from rz); exact fin
  | str i => obtain ⟨t, rfl⟩ := (show ∃ t, r = Value.str i t from rz); exact fin
  | byt i => obtain ⟨t, rfl⟩ := (show ∃ t, r = Value.bytes i t from rz); exact fin
  | flt i => obtain ⟨t, rfl⟩ := (show ∃ t, r = Value.float i t from rz); exact fin
  | ref i => cases (show r = Value.ref i from rz); exact fin
  | ty i => cases (show r = Value.type i from rz); exact fin
end
end Sl
/-! ## SlSet2 -/
set_option Elab.async false
set_option linter.all false
set_option maxRecDepth 100000
set_option maxHeartbeats 4000000
set_option pp.deepTerms false
set_option pp.deepTerms.threshold 3
set_option pp.maxSteps 500
namespace Sl
open PySem PySem.Spec PyProof.Rows L2
theorem txs_at : ∀ {us : List Value} {xs : List Str}, StrsAre us xs → ∀ (i : Nat) (v : Value), us[i]? = some v → ∃ k t, xs[i]? = some k ∧ v = .str k t
  | _, _, .nil, i, v, h => by simp at h
  | _, _, .cons n t r, 0, v, h => ⟨n, t, rfl, by simpa using h.symm⟩
  | _, _, .cons n t r, i + 1, v, h => by
    obtain ⟨k, u, e1, e2⟩ := txs_at r i v (by simpa using h)
    exact ⟨k, u, by simpa using e1, e2⟩
section
variable {P : Program} {w : World} {A : Around} {E : Value → Shared → Prop} {s : Shared}
abbrev setOb (w : World) : Obj := { cls := .type "set", dict := none, data := .set #[] 0 (.fresh 0 0 (!w.params.followText "set-order")) }
theorem call_set_txs {l : Addr} {its : Array Value} (xs : List Str) {Q : Value → Shared → Prop} (hh : A.handled = none) (hl : s.heap.IsList l its) (hi : StrsAre its.toList xs) (hb : xs.length + 1 < scanBound)
    (h : ∀ (h' : Heap) (tk : Nat) (D : Froz.SD), h'.get? s.heap.objs.size = some (Froz.sObj "set" D) → TxS P w D (dd xs xs.length) → (∀ b o, s.heap.get? b = some o → h'.get? b = some o) → Q (.ref s.heap.objs.size) { s with heap := h', toks := tk }) :
    wpAny (model P w) A (call (.type "set") [.ref l]) Q E s := by
  have en : its.size = xs.length := by
    have := StrsAre.len_eq hi
    rwa [Array.length_toList] at this
  obtain ⟨c, tl, hmro⟩ := F.called_set.mro
  have t1 := F.called_set.made
  have t2 := F.called_set.sub
  have t3 := F.called_set.notType
  have t4 := F.called_set.canCreate
  have t5 := F.typeCall_set_1 (.ref l)
  refine wpAny_call (codeAny_of_tree (by
    show wpAny _ _ (callAny (.type "set") _) _ _ _
    exact wpAny_pure ⟨Code.quiet_builtin _ (by decide +kernel), codeAny_builtin F.entry_type_call (by
      rw [Around.under_plain (weight_type_call_type "set" [.ref l] []) rfl]
      repeat (any_goals (first | assumption | wp_step))
      refine codeAny_mono (code_set_led1 (.ref l) (E := E) (Q₁ := fun v s₁ => v = .ref s.heap.objs.size ∧ s₁ = { s with heap := s.heap.push (setOb w) }) ⟨rfl, rfl⟩) fun r s₁ hr => ?_
      rcases r with e | fl
      · exact hr
      cases fl with
      | ret v =>
        obtain ⟨rfl, rfl⟩ := hr
        have gS : (s.heap.push (setOb w)).get? s.heap.objs.size = some (setOb w) := Heap.get?_push_size _ rfl
        have tS : Shared.TypeIs { s with heap := s.heap.push (setOb w) } (.ref s.heap.objs.size) "set" := ⟨_, gS, rfl⟩
        have t6 := F.called_set.init.lookup
        have t7 := F.called_set.init.bind (.ref s.heap.objs.size)
        repeat (any_goals (first | assumption | wp_step))
        refine codeAny_mono (codeAny_call_builtin (R := wants (fun r s₂ => r = .none ∧ ∃ h' tk D, s₂ = { s with heap := h', toks := tk } ∧ h'.get? s.heap.objs.size = some (Froz.sObj "set" D) ∧ TxS P w D (dd xs xs.length) ∧ ∀ b o, s.heap.get? b = some o → h'.get? b = some o) E) F.called_set.init.plain F.entry_set_init (check_set_init_1 tS ?_)) fun r₂ s₂ hr₂ => ?_
        · obtain ⟨⟨oc, od, odt, osl⟩, go, hc, nl, hd⟩ := hl
          simp only at hc hd
          subst hc; subst hd
          have go' : (s.heap.push (setOb w)).get? l = some { cls := .type "list", dict := od, data := .seq its nl, slots := osl } := Heap.get?_push_of_some _ go
          have u1 := F.sub_list_set
          have u2 := F.sub_list_frozenset
          have u3 : (Value.type "list" == Value.type "dict") = false := by decide
          have il : (s.heap.push (setOb w)).IsList l its := ⟨_, go', rfl, nl, rfl⟩
          unfold Builtin.«set.__init__» noKeywords Builtin.Frozenset.updateFrom
          generalize hPI : pyIter = PI
          wp_walk
          subst hPI
          refine wpAny_pyIter_list il (wpAny_bind (wpAny_runValue ?_))
          have ll : l < s.heap.objs.size := Heap.lt_size go
          have n1 : s.heap.objs.size ≠ (s.heap.push (setOb w)).objs.size := by rw [Heap.size_push]; exact Nat.ne_of_lt (Nat.lt_succ_self _)
          have n2 : l ≠ (s.heap.push (setOb w)).objs.size := by rw [Heap.size_push]; exact Nat.ne_of_lt (Nat.lt_succ_of_lt ll)
          have nS : s.heap.objs.size ∉ [(s.heap.push (setOb w)).objs.size, l] := fun hm => by
            rcases List.mem_cons.mp hm with z | z
            · exact n1 z
            · exact Nat.ne_of_lt ll (List.mem_singleton.mp z).symm
          have hv : ∀ (i : Nat) (v : Value), its[i]? = some v → ∃ k t, xs[i]? = some k ∧ v = .str k t := fun i v e => by
            exact txs_at hi i v (by rw [Array.getElem?_toList]; exact e)
          refine tx_loop (P := P) (w := w) (s := { s with heap := (s.heap.push (setOb w)).push { cls := .type "list_iterator", data := .fields #[.ref l, .int 0 0] } }) ((Walks.list (A := A.in1.in1.in1) (by simp [hh]) _ l n2 its).toS) s.heap.objs.size nS xs en hb hv (fun s1 s' D hm gD T es => ?_) (its.size - 0) 0 _ rfl (Nat.zero_le _) ⟨⟨_, Heap.get?_push_size _ rfl, rfl, rfl⟩, il.push _⟩ (fun _ => rfl) (fun z => absurd rfl z) ⟨setNew w, Heap.get?_push_of_some _ gS, TxS.zero⟩
          subst es
          obtain ⟨h', g2, d', tk', os'⟩ := s'
          obtain rfl : g2 = s.gens := hm.gens
          obtain rfl : d' = s.drawn := hm.drawn
          obtain rfl : os' = s.os := hm.os
          rw [en] at T
          refine wpAny_pure ?_
          show wpAny _ _ (ret Value.none) _ _ _
          refine wpAny_pure ⟨rfl, h', tk', D, rfl, gD, T, fun b o e => ?_⟩
          have hbl : b < s.heap.objs.size := Heap.lt_size e
          refine hm.heap b o (fun hm2 => ?_) (Heap.get?_push_of_some _ (Heap.get?_push_of_some _ e))
          rcases List.mem_cons.mp hm2 with z | z
          · exact Nat.ne_of_lt hbl z
          · have z2 := List.mem_singleton.mp z
            rw [Heap.size_push] at z2
            exact Nat.ne_of_lt (Nat.lt_succ_of_lt hbl) z2
        · rcases r₂ with e | fl₂
          · exact hr₂
          cases fl₂ with
          | ret r =>
            obtain ⟨rfl, h', tk, D, rfl, gD, T, kk⟩ := hr₂
            repeat (any_goals (first | assumption | wp_step))
            exact h _ _ _ gD T kk
          | _ => exact hr₂.elim
      | _ => exact hr.elim)⟩))
theorem sorted_txs {a : Addr} {D : Froz.SD} {l : List Str} {Q : Value → Shared → Prop} (ho : s.heap.get? a = some (Froz.sObj "set" D)) (T : TxS P w D l) (h64 : l.length < 64) (hh : A.handled = none)
    (h : ∀ s' p (out : Array Value) (c : Nat) (ys : List Str), (∀ b o, s.heap.get? b = some o → s'.heap.get? b = some o) → s'.gens = s.gens → s'.os = s.os → s.heap.objs.size ≤ p → s'.heap.get? p = some (seqObj "list" out c) → StrsAre out.toList ys → ys.Perm l → sortedS ys = true → Q (.ref p) s') :
    wpAny (model P w) A (call (.builtin "sorted") [.ref a]) Q E s := by
  have sz : D.1.size = l.length := T.ok.sz
  refine Calls.call_function_entry kind_sorted plain_sorted entry_sorted (args_sorted1 _) ?_
  unfold Builtin.«sorted»
  refine wpAny_bind (m := checkCount "sorted" 1 1 _) (wpAny_pure (wpAny_bind (collect_set (A := A.in1) hh ⟨_, ho, rfl, rfl⟩ T.ok.fit (by unfold scanBound; omega) T.ris T.led fun s1 vs k1 hz g1 o1 pm => ?_)))
  have lv : vs.length < 64 := by rw [pm.length_eq, List.length_map, Array.length_toList]; omega
  have sv : StrsAre vs (vs.map strOf) := strsAre_of fun v hv => T.strs v (pm.mem_iff.mp hv)
  have pv : (vs.map strOf).Perm l := by
    have p1 := pm.map strOf
    rw [List.map_map] at p1
    exact p1.trans T.pm
  refine wpAny_bind (wpAny_newList ?_ (by rw [sizeLine_eq]; omega))
  have hL : (s1.heap.push (seqObj "list" vs.toArray 0)).get? s1.heap.objs.size = some (seqObj "list" vs.toArray 0) := Heap.get?_push_size _ rfl
  refine wpAny_bind (wpAny_holding (wpAny_call_entry slot_list_sort ⟨_, hL, rfl⟩ entry_list_sort (list_sort_treeK strKind_oneLt (s := { s1 with heap := s1.heap.push (seqObj "list" vs.toArray 0) }) hL sv.keysOf (fun v₁ v₂ r e => keyKind_strs (by rw [← e]; exact sv)) lv fun st' hp hs => ⟨_, rfl, ?_⟩) (args_list_sort _)))
  obtain ⟨ys, g2, g3, g4⟩ := sorted_out_str sv hp hs
  obtain ⟨c, hc⟩ := sortedHeap_at (vs := vs) (out := (arrOf st').map (·.2)) hL
  refine wpAny_pure ⟨_, rfl, h _ s1.heap.objs.size _ c ys (fun b u e => ?_) g1 o1 hz hc g2 (g3.trans pv) g4⟩
  have q := k1 b u e
  have lb := Heap.lt_size q
  show (sortedHeap _ s1.heap.objs.size vs _).get? b = some u
  rw [sortedHeap_old (Nat.ne_of_lt lb) (by rw [size_push']; exact Nat.lt_succ_of_lt lb)]
  exact Heap.get?_push_of_some _ q
end
/-! ### the rules -/
def StrO (P : Program) (w : World) (a : Addr) (l : List Str) : HO := .ext fun h => ∃ D, h.get? a = some (Froz.sObj "set" D) ∧ TxS P w D l
theorem strO_new {P : Program} {w : World} {H : Hp} {h : Heap} {a : Addr} {l : List Str} {D : Froz.SD} (g : h.get? a = some (Froz.sObj "set" D)) (T : TxS P w D l) : ObjOk P w H h a (StrO P w a l) :=
  ⟨⟨D, g, T⟩, ⟨_, g⟩, fun h1 h2 ⟨D', g', T'⟩ k => ⟨D', k _ g', T'⟩⟩
section
variable {X : Cx}
def rSetTx (K : PySem.W.Frag) (P : Program) (w : World) : List V → Hp → VK → Prop := fun xs H Q => ∃ (l : Addr) (zs : List Str), xs = [.ref l] ∧ SqL K H l (zs.map V.str) ∧ zs.length + 1 < scanBound ∧ ∀ a, H a = none → Q (.ref a) (upd H a (StrO P w a (dd zs zs.length)))
theorem cr_setTx (hc : X.calm = true) : CallR X (.type "set") (rSetTx X.K X.prog X.w) := by
  intro pins s σ H xs us Q I r h
  obtain ⟨l, zs, rfl, hl, hb, q⟩ := h
  rw [Vals.ref1 r]
  obtain ⟨its, rv, pl, hz⟩ := I.list hl
  refine call_set_txs (P := X.prog) (w := X.w) zs (I.ok.hd hc) pl.isList (by simpa using rv.strs) hb fun h' tk D g T k => ?_
  exact ⟨.ref s.heap.objs.size, _, I.laid (t' := tk) k (Nat.le_refl _) (strO_new g T), rfl, q _ (I.hok.fresh (Nat.le_refl _))⟩
def rSortTx (P : Program) (w : World) : List V → Hp → VK → Prop := fun xs H Q => ∃ (a : Addr) (l : List Str), xs = [.ref a] ∧ H a = some (StrO P w a l) ∧ l.length < 64 ∧ ∀ (ys : List Str) (p : Addr), ys.Perm l → sortedS ys = true → H p = none → Q (.ref p) (upd H p (.lst (ys.map V.str)))
theorem cr_sortTx (hc : X.calm = true) : CallR X (.builtin "sorted") (rSortTx X.prog X.w) := by
  intro pins s σ H xs us Q I r h
  obtain ⟨a, l, rfl, ha, h64, q⟩ := h
  obtain ⟨D, g, T⟩ := (I.hok a _ ha).1
  rw [Vals.ref1 r]
  refine sorted_txs g T h64 (I.ok.hd hc) fun s' p out c ys k gg oo hp hg hs pm so => ?_
  have lz : (ys.map V.str).length ≤ sizeLine := by rw [List.length_map, pm.length_eq, sizeLine_eq]; omega
  have hn : H p = none := I.hok.fresh hp
  have J : Inv X pins σ (upd H p (.lst (ys.map V.str))) { s with heap := s'.heap, gens := s'.gens, drawn := s'.drawn, toks := s'.toks } :=
    I.call (ch := []) (Un.laid k hp hn) (I.hok.laid k hp ⟨lz, out.toList, c, vals_of_strs hs, hg⟩) (by rw [gg]; exact I.bare) (fun _ z => nomatch z)
  obtain ⟨h1, h2, h3, h4, h5⟩ := s'
  obtain rfl : h5 = s.os := oo
  exact ⟨.ref p, _, J, rfl, q ys p pm so hn⟩
end
end Sl
/-! ## Tr4 -/
set_option Elab.async false
set_option linter.all false
set_option maxRecDepth 100000
set_option maxHeartbeats 4000000
/-! Tr4: what is walked, targets, comprehensions, built-ins; own work. -/
namespace Tr
open PySem PySem.Spec PyProof.Rows L2 Sl
section
variable {K : PySem.W.Frag} {p : Option Addr} {G : Addr → Prop} {n m : Nat} {H H' H1 : Hp}
theorem RX.listS {xs : List T} {v : V} (w : Wld p G n H) (r : RX K p G H (.lst xs) v) : ∃ a vs, v = .ref a ∧ p ≠ some a ∧ H a = some (.lst vs) ∧ Rs K p (hid G H) xs vs := by
  rcases r with r | ⟨a, e, ns, c⟩
  · cases r with | lst h r => exact ⟨_, _, rfl, fun z => (hid_to h).1 (w.hd _ z), hid_in _ _ h, r⟩
  · cases c with | lst h r => exact ⟨a, _, e, ns, h, r⟩
/-! ### what is walked -/
structure WalkT (K : PySem.W.Frag) (p : Option Addr) (G : Addr → Prop) (H1 : Hp) (J : It) (ts : List T) : Prop where
  w : Walk J ts.length (fun H => Kp p H1 H) (fun i H x H' => Kp p H H' ∧ ∀ (G' : Addr → Prop) (m : Nat), Wld p G' m H → Wld p G' m H' ∧ ((∀ a, G' a → G a ∨ H1 a = none) → ∃ t, ts[i]? = some t ∧ R K p (hid G' H') t x))
structure EI (K : PySem.W.Frag) (p : Option Addr) (wi : TI) (W : WA) : Prop where
  ev : ∀ (G : Addr → Prop) (ad : Nat → Addr) (E : En) (n : Nat) (σ : L2.St) (H : Hp) (R : It → Hp → Prop), Wld p G n H → RelE K p G ad E σ H →
    W E n (fun ts m => ∀ J H1, Kp p H H1 → Wld p G m H1 → WalkT K p G H1 J ts → R J H1) → wi σ H R
  mo : MonoA W
variable {te : TE} {We : WE}
def iLst (We : WE) : WA := fun E n k => We E n fun t m => match t with | .lst ts => k ts m | _ => False
def iTpl (We : WE) : WA := fun E n k => We E n fun t m => match t with | .tup ts => k ts m | _ => False
def iStrT (We : WE) : WA := fun E n k => We E n fun t m => match t with | .str z => k (z.cps.toList.map fun c => .str ⟨#[c]⟩) m | _ => False
theorem ei_list (h : EX K p te We) : EI K p (iList K te) (iLst We) := ⟨fun G ad E n σ H R w rl q => by
  refine h.ev G ad E n σ H _ w rl (h.mo _ _ _ _ (fun t m q v H1 k1 w1 r1 => ?_) q)
  cases t <;> try cases q
  rename_i ts
  obtain ⟨a, vs, rfl, na, ha, rs⟩ := r1.listS w1
  refine ⟨a, rfl, ⟨vs, SqL.of ha⟩, q _ H1 k1 w1 ⟨?_⟩⟩
  rw [← rs.length]
  refine walk_list.mono (fun H2 k2 => SqL.of (k2 _ _ na ha)) fun i H2 x H3 hi k2 ⟨e, hx⟩ => ?_
  subst e
  refine ⟨.refl _ _, fun G' m' w' => ⟨w', fun hg => ?_⟩⟩
  obtain ⟨t, et, rt⟩ := rs.back hx
  exact ⟨t, et, rt.mono (k2.hid2 w1.hd hg)⟩, fun E n k k' hk q => h.mo _ _ _ _ (fun t m q => by cases t <;> first | exact hk _ _ q | cases q) q⟩
theorem ei_tup (h : ET K p te We) : EI K p (iTup K te) (iTpl We) := ⟨fun G ad E n σ H R w rl q => by
  refine h.ev G ad E n σ H _ w rl (h.mo _ _ _ _ (fun t m q v H1 k1 w1 r1 => ?_) q)
  cases t <;> try cases q
  rename_i ts
  cases r1 with
  | tup ha rs =>
    rename_i a vs
    refine ⟨a, rfl, ⟨vs, sqt_same hid_in ha⟩, q _ H1 k1 w1 ⟨?_⟩⟩
    rw [← rs.length]
    refine walk_tup.mono (fun H2 k2 => sqt_same hid_in (sqt_same (k2.hid w1.hd) ha)) fun i H2 x H3 hi k2 ⟨e, hx⟩ => ?_
    subst e
    refine ⟨.refl _ _, fun G' m' w' => ⟨w', fun hg => ?_⟩⟩
    obtain ⟨t, et, rt⟩ := rs.back hx
    exact ⟨t, et, rt.mono (k2.hid2 w1.hd hg)⟩, fun E n k k' hk q => h.mo _ _ _ _ (fun t m q => by cases t <;> first | exact hk _ _ q | cases q) q⟩
theorem ei_str (h : ET K p te We) : EI K p (iStr te) (iStrT We) := ⟨fun G ad E n σ H R w rl q => by
  refine h.ev G ad E n σ H _ w rl (h.mo _ _ _ _ (fun t m q v H1 k1 w1 r1 => ?_) q)
  cases t <;> try cases q
  rename_i z
  refine ⟨z, r1.toStr, q _ H1 k1 w1 ⟨?_⟩⟩
  have el : (z.cps.toList.map fun c => T.str ⟨#[c]⟩).length = z.cps.size := by simp
  rw [el]
  refine walk_str.mono (fun _ _ => trivial) fun i H2 x H3 hi k2 ⟨e, c, hc, hx⟩ => ?_
  subst e hx
  exact ⟨.refl _ _, fun G' m' w' => ⟨w', fun hg => ⟨_, by simp [hc], .str _⟩⟩⟩, fun E n k k' hk q => h.mo _ _ _ _ (fun t m q => by cases t <;> first | exact hk _ _ q | cases q) q⟩
variable {ta : TA} {Wr : WA}
def iRngT (Wr : WA) : WA := fun E n k => Wr E n fun ts m => match ts with | [.int j] => if -(2 ^ 62) ≤ j ∧ j < 2 ^ 62 then k ((List.range j.toNat).map fun i => .int (i : Nat)) m else False | _ => False
theorem ei_range1 (h : EA K p ta Wr) : EI K p (iRng1 ta) (iRngT Wr) := ⟨fun G ad E n σ H R w rl q => by
  refine h.ev G ad E n σ H _ w rl (h.mo _ _ _ _ (fun ts m q vs H1 k1 w1 r1 => ?_) q)
  unfold iRngT at q
  split at q
  · rename_i j
    obtain ⟨⟨b1, b2⟩, q⟩ := ite_get q
    cases r1 with
    | cons r1 r2 =>
      cases r2
      refine ⟨j, by rw [r1.toInt], b1, b2, q _ H1 k1 w1 ⟨?_⟩⟩
      have el : ((List.range j.toNat).map fun i => T.int (i : Nat)).length = j.toNat := by simp
      rw [el]
      refine walk_range.mono (fun _ _ => trivial) fun i H2 x H3 hi k2 ⟨e, hx⟩ => ?_
      subst e hx
      exact ⟨.refl _ _, fun G' m' w' => ⟨w', fun hg => ⟨.int (i : Nat), by simp [hi], by show Tr.R K p _ _ (V.int (0 + (i : Nat))); rw [Int.zero_add]; exact .int _⟩⟩⟩
  · exact q.elim, fun E n k k' hk q => h.mo _ _ _ _ (fun ts m q => by
  split at q
  · exact ite_mono (hk _ _) q
  · exact q.elim) q⟩
/-! ### targets -/
abbrev WG := T → En → (En → Prop) → Prop
structure EG (K : PySem.W.Frag) (p : Option Addr) (g : TG) (ix : List Nat) (W : WG) : Prop where
  ev : ∀ (G : Addr → Prop) (ad : Nat → Addr) (E : En) (σ : L2.St) (H : Hp) (t : T) (v : V) (Q : L2.St → Hp → Prop), RelE K p G ad E σ H → R K p (hid G H) t v →
    W t E (fun E' => ∀ σ', RelE K p G ad E' σ' H → σ'.length = σ.length → (∀ j, j ∉ ix → σ'[j]? = σ[j]?) → Q σ' H) → g v σ H Q
  mo : ∀ t E k k', (∀ E', k E' → k' E') → W t E k → W t E k'
  ow : ∀ t E k, W t E k → W t E fun E' => k E' ∧ ∀ (i : Nat) (u : T), E'[i]? = some (Sl.ow u) → E[i]? = some (Sl.ow u)
theorem ow_set {E : En} {i j : Nat} {t u : T} (e : (E.set i (Sl.sh t))[j]? = some (Sl.ow u)) : E[j]? = some (Sl.ow u) := by
  by_cases ij : i = j
  · subst ij
    have hi := (List.getElem?_eq_some_iff.mp e).1
    rw [List.length_set] at hi
    rw [List.getElem?_set_self hi] at e
    cases e
  · rwa [List.getElem?_set_ne ij] at e
theorem RelE.set {ad : Nat → Addr} {E : En} {σ : L2.St} (r : RelE K p G ad E σ H) {i : Nat} {t : T} {v : V} (h : R K p (hid G H) t v) : RelE K p G ad (E.set i (.sh t)) (σ.set i (some v)) H :=
  ⟨by rw [List.length_set, List.length_set]; exact r.len, fun j u e => by
    by_cases ij : i = j
    · subst ij
      have hi : i < E.length := by
        have := (List.getElem?_eq_some_iff.mp e).1
        rwa [List.length_set] at this
      rw [List.getElem?_set_self hi] at e
      cases e
      exact ⟨v, List.getElem?_set_self (by rw [r.len]; exact hi), h⟩
    · rw [List.getElem?_set_ne ij] at e ⊢
      exact r.sh j u e, fun j u e => by
    by_cases ij : i = j
    · subst ij
      have hi : i < E.length := by
        have := (List.getElem?_eq_some_iff.mp e).1
        rwa [List.length_set] at this
      rw [List.getElem?_set_self hi] at e
      cases e
    · rw [List.getElem?_set_ne ij] at e ⊢
      exact r.ow j u e⟩
def wgName (i : Nat) : WG := fun t E k => k (E.set i (.sh t))
theorem eg_name (i : Nat) : EG K p (gName i) [i] (wgName i) := ⟨fun G ad E σ H t v Q r h q =>
  q _ (r.set h) (List.length_set ..) fun j hj => List.getElem?_set_ne (fun e => hj (by rw [e]; exact List.mem_singleton.mpr rfl)), fun t E k k' hk q => hk _ q, fun t E k q => ⟨q, fun j u e => ow_set e⟩⟩
/-- a, b, ..: names of their own -/
def sets : List Nat → List T → En → Option En
  | [], [], E => some E
  | i :: is, t :: ts, E => sets is ts (E.set i (.sh t))
  | _, _, _ => none
def gNames : List Nat → TGs
  | [] => gNil
  | i :: is => gCons (gName i) (gNames is)
def wgTup (is : List Nat) : WG := fun t E k => match t with | .tup ts => opt (sets is ts E) k | _ => False
theorem names_ok : ∀ (is : List Nat) (ts : List T) (vs : List V) (E E' : En) (σ : L2.St) (ad : Nat → Addr) (Q : L2.St → Hp → Prop), RelE K p G ad E σ H → Rs K p (hid G H) ts vs → sets is ts E = some E' →
    (∀ σ', RelE K p G ad E' σ' H → σ'.length = σ.length → (∀ j, j ∉ is → σ'[j]? = σ[j]?) → Q σ' H) → gNames is vs σ H Q
  | [], ts, vs, E, E', σ, ad, Q, r, h, e, q => by
    cases ts with
    | nil =>
      cases h
      cases e
      exact ⟨rfl, q σ r rfl fun _ _ => rfl⟩
    | cons _ _ => cases e
  | i :: is, ts, vs, E, E', σ, ad, Q, r, h, e, q => by
    cases ts with
    | nil => cases e
    | cons t ts =>
      cases h with
      | cons h1 h2 =>
        refine ⟨_, _, rfl, names_ok is ts _ _ E' _ ad Q (r.set h1) h2 e fun σ' r' l' f' => q σ' r' (by rw [l', List.length_set]) fun j hj => ?_⟩
        rw [List.mem_cons, not_or] at hj
        rw [f' j hj.2, List.getElem?_set_ne (fun e => hj.1 e.symm)]
theorem sets_len : ∀ {is : List Nat} {ts : List T} {E E' : En}, sets is ts E = some E' → ts.length = is.length
  | [], [], _, _, _ => rfl
  | [], _ :: _, _, _, e => by cases e
  | _ :: _, [], _, _, e => by cases e
  | i :: is, t :: ts, E, E', e => by rw [List.length_cons, List.length_cons, sets_len (is := is) e]
theorem sets_ow : ∀ {is : List Nat} {ts : List T} {E E' : En}, sets is ts E = some E' → ∀ (j : Nat) (u : T), E'[j]? = some (Sl.ow u) → E[j]? = some (Sl.ow u)
  | [], [], _, _, e, _, _, h => by cases e; exact h
  | [], _ :: _, _, _, e, _, _, _ => by cases e
  | _ :: _, [], _, _, e, _, _, _ => by cases e
  | i :: is, t :: ts, E, E', e, j, u, h => ow_set (sets_ow (is := is) (ts := ts) e j u h)
theorem eg_tup (is : List Nat) : EG K p (gTup K is.length (gNames is)) is (wgTup is) := ⟨fun G ad E σ H t v Q r h q => by
  cases t <;> try cases q
  obtain ⟨E', e, q⟩ := opt_some q
  cases h with
  | tup ha rs => exact ⟨_, _, rfl, sqt_same hid_in ha, by rw [rs.length]; exact sets_len e, names_ok is _ _ E E' σ ad Q r rs e q⟩, fun t E k k' hk q => by
  cases t <;> try cases q
  exact opt_mono hk q, fun t E k q => by
  cases t <;> try cases q
  obtain ⟨E', e, q⟩ := opt_some q
  show opt (sets is _ E) _
  rw [e]
  exact ⟨q, sets_ow e⟩⟩
theorem eg_tup2 (i j : Nat) : EG K p (gTup K 2 (gCons (gName i) (gCons (gName j) gNil))) [i, j] (wgTup [i, j]) := eg_tup [i, j]
theorem eg_tup3 (i j l : Nat) : EG K p (gTup K 3 (gCons (gName i) (gCons (gName j) (gCons (gName l) gNil)))) [i, j, l] (wgTup [i, j, l]) := eg_tup [i, j, l]
/-! ### comprehensions of lists -/
def wipeE (E : En) : List Nat → En
  | [] => E
  | v :: vs => (wipeE E vs).set v .no
theorem RelE.wipe1 {ad : Nat → Addr} {E : En} {σ : L2.St} (r : RelE K p G ad E σ H) (i : Nat) : RelE K p G ad (E.set i .no) (σ.set i none) H :=
  ⟨by rw [List.length_set, List.length_set]; exact r.len, fun j u e => by
    by_cases ij : i = j
    · subst ij
      have hi : i < E.length := by
        have := (List.getElem?_eq_some_iff.mp e).1
        rwa [List.length_set] at this
      rw [List.getElem?_set_self hi] at e
      cases e
    · rw [List.getElem?_set_ne ij] at e ⊢
      exact r.sh j u e, fun j u e => by
    by_cases ij : i = j
    · subst ij
      have hi : i < E.length := by
        have := (List.getElem?_eq_some_iff.mp e).1
        rwa [List.length_set] at this
      rw [List.getElem?_set_self hi] at e
      cases e
    · rw [List.getElem?_set_ne ij] at e ⊢
      exact r.ow j u e⟩
theorem RelE.wipe {ad : Nat → Addr} {E : En} {σ : L2.St} (r : RelE K p G ad E σ H) : ∀ vs : List Nat, RelE K p G ad (wipeE E vs) (L2.wipe σ vs) H
  | [] => r
  | v :: vs => (r.wipe vs).wipe1 v
theorem wipe_at {σ : L2.St} : ∀ {vs : List Nat} {j : Nat}, (L2.wipe σ vs)[j]? = if j ∈ vs then (if j < σ.length then some none else none) else σ[j]?
  | [], j => by simp [L2.wipe]
  | v :: vs, j => by
    show ((L2.wipe σ vs).set v none)[j]? = _
    by_cases hv : v = j
    · subst hv
      rw [if_pos List.mem_cons_self]
      by_cases hl : v < σ.length
      · rw [List.getElem?_set_self (by rw [wipe_length]; exact hl), if_pos hl]
      · rw [if_neg hl, List.getElem?_eq_none (by rw [List.length_set, wipe_length]; omega)]
    · rw [List.getElem?_set_ne hv, wipe_at (vs := vs)]
      by_cases hm : j ∈ vs
      · rw [if_pos hm, if_pos (List.mem_cons_of_mem _ hm)]
      · rw [if_neg hm, if_neg (fun z => (List.mem_cons.mp z).elim (fun e => hv e.symm) hm)]
theorem wipe_of {σ σ' : L2.St} {vs ix : List Nat} (hx : ∀ j ∈ ix, j ∈ vs) (hl : σ'.length = (L2.wipe σ vs).length) (hf : ∀ j, j ∉ ix → σ'[j]? = (L2.wipe σ vs)[j]?) : L2.wipe σ' vs = L2.wipe σ vs := by
  apply List.ext_getElem?
  intro j
  rw [wipe_at, wipe_at]
  rw [wipe_length] at hl
  by_cases hm : j ∈ vs
  · rw [if_pos hm, if_pos hm, hl]
  · rw [if_neg hm, if_neg hm, hf j fun z => hm (hx j z), wipe_at, if_neg hm]
def compL (Wg : WG) (Wt : WB) (We : WE) (E : En) : List T → List T → Nat → KT → Prop
  | [], acc, m, k => k (.lst acc) m
  | x :: xs, acc, m, k => Wg x E fun E' => Wt E' m fun b m1 => if b = true then We E' m1 fun y m2 => if acc.length < sizeLine then compL Wg Wt We E xs (acc ++ [y]) m2 k else False else compL Wg Wt We E xs acc m1 k
def bYes : WB := fun _ n k => k true n
theorem eb_yes : EB K p tYes bYes := ⟨fun G ad E n σ H Q w rl q => q H (.refl _ _) w, fun E n k k' hk q => hk _ _ q⟩
def wLc (Wi : WA) (Wg : WG) (Wt : WB) (We : WE) (own : List Nat) : WE := fun E n k => Wi E n fun ts m => compL Wg Wt We (wipeE E own) ts [] m k
theorem compL_mono {Wg : WG} {Wt : WB} {We : WE} (hg : ∀ t E k k', (∀ E', k E' → k' E') → Wg t E k → Wg t E k') (ht : MonoB Wt) (he : Mono We) {E : En} {k k' : KT} (hk : ∀ t m, k t m → k' t m) :
    ∀ (xs acc : List T) (m : Nat), compL Wg Wt We E xs acc m k → compL Wg Wt We E xs acc m k'
  | [], acc, m, q => hk _ _ q
  | x :: xs, acc, m, q => hg _ _ _ _ (fun E' q => ht _ _ _ _ (fun b m1 q => by
    cases b with
    | true => exact he _ _ _ _ (fun y m2 q => ite_mono (compL_mono hg ht he hk xs _ _) q) q
    | false => exact compL_mono hg ht he hk xs _ _ q) q) q
theorem en_lc {wi : TI} {g : TG} {tt : TT} {te : TE} {own ix : List Nat} {Wi : WA} {Wg : WG} {Wt : WB} {We : WE} (hi : EI K p wi Wi) (hg : EG K p g ix Wg) (ht : EB K p tt Wt) (he : ET K p te We) (hx : ∀ j ∈ ix, j ∈ own := by decide) :
    EN K p (tLc wi g tt te own) (wLc Wi Wg Wt We own) := ⟨fun G ad E n σ H Q w rl q => by
  refine hi.ev G ad E n σ H _ w rl (hi.mo _ _ _ _ (fun ts m q J H1 k1 w1 wt => ?_) q)
  intro D hD
  have rl1 := rl.kp w.hd k1
  let GD : Addr → Prop := GA G D
  have gd : ∀ a, GD a → G a ∨ H1 a = none := fun a z => z.elim .inl fun e => .inr (by rw [e]; exact hD)
  have wD : Wld p GD m (upd H1 D (.lst [])) := ⟨fun a z => z.elim (fun z => (w1.new (o := .lst []) hD).gok a z) fun e => by
    subst e
    exact ⟨_, upd_same⟩, fun a e => ⟨.inl (w1.hd a e), ((w1.new (o := .lst []) hD).src a e).2⟩⟩
  have nD : p ≠ some D := w1.nsrc hD
  refine lc_it wt.w (fun i H2 => ∃ (m2 : Nat) (acc : List T) (vs : List V), Kp p H1 H2 ∧ Wld p GD m2 H2 ∧ H2 D = some (.lst vs) ∧ Rs K p (hid GD H2) acc vs ∧
    compL Wg Wt We (wipeE E own) (ts.drop i) acc m2 (fun t m => ∀ a H', Kp p H H' → Wld p G m H' → H a = none → Cont K p (hid (GA G a) H') H' a t → Q (.ref a) H')) ⟨m, [], [], Kp.new hD, wD, upd_same, .nil, q⟩ (fun i H2 _ ⟨_, _, _, k2, _⟩ => k2) ?_ ?_
  · rintro i x H2 H3 hi2 ⟨m2, acc, vs, k2, w2, hd2, rs2, q2⟩ ⟨k3, hy⟩
    obtain ⟨w3, hy⟩ := hy GD m2 w2
    obtain ⟨t, et, rt⟩ := hy gd
    have ed : ts.drop i = t :: ts.drop (i + 1) := by
      rw [List.drop_eq_getElem_cons hi2]
      congr 1
      exact Option.some.inj ((List.getElem?_eq_getElem hi2).symm.trans et)
    rw [ed] at q2
    have k13 := k2.trans k3
    have r3 : RelE K p GD ad (wipeE E own) (L2.wipe σ own) H3 := by
      have r0 : RelE K p GD ad E σ H3 := ⟨rl1.len, fun i t e => by
        obtain ⟨v, e1, h⟩ := rl1.sh i t e
        exact ⟨v, e1, h.mono (k13.hid2 w1.hd gd)⟩, fun i t e => by
        obtain ⟨e1, g1, n1, c1⟩ := rl1.ow i t e
        refine ⟨e1, .inl g1, n1, ?_⟩
        cases c1 with
        | lst h r => exact .lst (k13 _ _ n1 h) (r.mono (k13.hid2 w1.hd gd))
        | dic h r => exact .dic (k13 _ _ n1 h) (r.mono (k13.hid2 w1.hd gd))
        | obj h r l => exact .obj (k13 _ _ n1 h) (r.mono (k13.hid2 w1.hd gd)) l⟩
      exact r0.wipe own
    refine hg.ev GD ad (wipeE E own) _ H3 t x _ r3 rt (hg.mo _ _ _ _ (fun E' q2 σ' r4 l4 f4 => ?_) q2)
    refine ⟨wipe_of hx l4 f4, ?_⟩
    refine ht.ev GD ad E' m2 σ' H3 _ w3 r4 (ht.mo _ _ _ _ (fun b m4 q2 H4 k4 w4 => ?_) q2)
    cases b with
    | false => exact ⟨m4, acc, vs, k13.trans k4, w4, k4 _ _ nD (k3 _ _ nD hd2), rs2.kp w2.hd (k3.trans k4), q2⟩
    | true =>
      refine he.ev GD ad E' m4 σ' H4 _ w4 (r4.kp w3.hd k4) (he.mo _ _ _ _ (fun y m5 q2 v H5 k5 w5 r5 => ?_) q2)
      obtain ⟨hz, q2⟩ := ite_get q2
      have hd5 := k5 _ _ nD (k4 _ _ nD (k3 _ _ nD hd2))
      have rs5 := rs2.kp w2.hd ((k3.trans k4).trans k5)
      refine ⟨vs, hd5, by rw [rs5.length]; exact hz, m5, acc ++ [y], vs ++ [v], ?_, ?_, upd_same, ?_, q2⟩
      · intro b o nb hb
        rw [upd_ne (ne_of_none hb hD)]
        exact (k13.trans (k4.trans k5)) b o nb hb
      · refine ⟨fun a z => ?_, fun a e => ⟨.inl (w1.hd a e), ?_⟩⟩
        · by_cases ea : a = D
          · subst ea
            exact ⟨_, upd_same⟩
          · rw [upd_ne ea]
            exact w5.gok a z
        · obtain ⟨g0, s0, c0, e0, rest⟩ := (w5.src a e).2
          exact ⟨g0, s0, c0, by rw [upd_ne (fun z => nD (by rw [← z]; exact e))]; exact e0, rest⟩
      · refine (rs5.app (.one r5)).mono fun b o e => ?_
        obtain ⟨nb, e⟩ := hid_to e
        exact hid_of nb (by rw [upd_ne (fun z => nb (.inr z))]; exact e)
  · rintro H2 ⟨m2, acc, vs, k2, w2, hd2, rs2, q2⟩
    rw [List.drop_length] at q2
    refine q2 D H2 (k1.trans k2) ⟨fun a z => w2.gok a (.inl z), fun a e => ⟨w1.hd a e, (w2.src a e).2⟩⟩ (k1.free w w1 hD) (.lst hd2 rs2), fun E n k k' hk q => hi.mo _ _ _ _ (fun ts m q => compL_mono hg.mo ht.mo he.mo hk ts [] m q) q⟩
end
end Tr
/-! ## Tr5 -/
set_option Elab.async false
set_option linter.all false
set_option maxRecDepth 100000
set_option maxHeartbeats 4000000
/-! Tr5: statements; own work. -/
namespace Tr
open PySem PySem.Spec PyProof.Rows L2 Sl
/-- what is not hidden stands -/
def Kq (G : Addr → Prop) (H H' : Hp) : Prop := ∀ b o, ¬ G b → H b = some o → H' b = some o
section
variable {K : PySem.W.Frag} {p : Option Addr} {G : Addr → Prop} {n m : Nat} {H H' H1 : Hp}
theorem Kp.q (k : Kp p H H') (w : ∀ a, p = some a → G a) : Kq G H H' := fun b o g e => k b o (fun z => g (w b z)) e
theorem Kq.hid2 {G' : Addr → Prop} (k : Kq G H H') (g : ∀ a, G' a → G a ∨ H a = none) : Same (hid G H) (hid G' H') := fun b o e => by
  obtain ⟨h, e⟩ := hid_to e
  refine hid_of (fun z => ?_) (k b o h e)
  rcases g b z with z | z
  · exact h z
  · rw [e] at z; cases z
structure WalkS (K : PySem.W.Frag) (p : Option Addr) (G : Addr → Prop) (H1 : Hp) (J : It) (ts : List T) : Prop where
  w : Walk J ts.length (fun H => Kq G H1 H) (fun i H x H' => Kp p H H' ∧ ∀ (G' : Addr → Prop) (m : Nat), Wld p G' m H → Wld p G' m H' ∧ ((∀ a, G' a → G a ∨ H1 a = none) → ∃ t, ts[i]? = some t ∧ R K p (hid G' H') t x))
structure EIS (K : PySem.W.Frag) (p : Option Addr) (wi : TI) (W : WA) : Prop where
  ev : ∀ (G : Addr → Prop) (ad : Nat → Addr) (E : En) (n : Nat) (σ : L2.St) (H : Hp) (R : It → Hp → Prop), Wld p G n H → RelE K p G ad E σ H →
    W E n (fun ts m => ∀ J H1, Kp p H H1 → Wld p G m H1 → WalkS K p G H1 J ts → R J H1) → wi σ H R
  mo : MonoA W
variable {te : TE} {We : WE} {ta : TA} {Wr : WA}
theorem eis_list (h : ET K p te We) : EIS K p (iList K te) (iLst We) := ⟨fun G ad E n σ H R w rl q => by
  refine h.ev G ad E n σ H _ w rl (h.mo _ _ _ _ (fun t m q v H1 k1 w1 r1 => ?_) q)
  cases t <;> try cases q
  rename_i ts
  cases r1 with
  | lst ha rs =>
    rename_i a vs
    obtain ⟨na, ha⟩ := hid_to ha
    refine ⟨a, rfl, ⟨vs, SqL.of ha⟩, q _ H1 k1 w1 ⟨?_⟩⟩
    rw [← rs.length]
    refine walk_list.mono (fun H2 k2 => SqL.of (k2 _ _ na ha)) fun i H2 x H3 hi k2 ⟨e, hx⟩ => ?_
    subst e
    refine ⟨.refl _ _, fun G' m' w' => ⟨w', fun hg => ?_⟩⟩
    obtain ⟨t, et, rt⟩ := rs.back hx
    exact ⟨t, et, rt.mono (k2.hid2 hg)⟩, fun E n k k' hk q => h.mo _ _ _ _ (fun t m q => by cases t <;> first | exact hk _ _ q | cases q) q⟩
theorem eis_tup (h : ET K p te We) : EIS K p (iTup K te) (iTpl We) := ⟨fun G ad E n σ H R w rl q => by
  refine h.ev G ad E n σ H _ w rl (h.mo _ _ _ _ (fun t m q v H1 k1 w1 r1 => ?_) q)
  cases t <;> try cases q
  rename_i ts
  cases r1 with
  | tup ha rs =>
    rename_i a vs
    refine ⟨a, rfl, ⟨vs, sqt_same hid_in ha⟩, q _ H1 k1 w1 ⟨?_⟩⟩
    rw [← rs.length]
    refine walk_tup.mono (fun H2 k2 => sqt_same hid_in (sqt_same (k2.hid2 (G' := G) fun _ z => .inl z) ha)) fun i H2 x H3 hi k2 ⟨e, hx⟩ => ?_
    subst e
    refine ⟨.refl _ _, fun G' m' w' => ⟨w', fun hg => ?_⟩⟩
    obtain ⟨t, et, rt⟩ := rs.back hx
    exact ⟨t, et, rt.mono (k2.hid2 hg)⟩, fun E n k k' hk q => h.mo _ _ _ _ (fun t m q => by cases t <;> first | exact hk _ _ q | cases q) q⟩
theorem eis_str (h : ET K p te We) : EIS K p (iStr te) (iStrT We) := ⟨fun G ad E n σ H R w rl q => by
  refine h.ev G ad E n σ H _ w rl (h.mo _ _ _ _ (fun t m q v H1 k1 w1 r1 => ?_) q)
  cases t <;> try cases q
  rename_i z
  refine ⟨z, r1.toStr, q _ H1 k1 w1 ⟨?_⟩⟩
  have el : (z.cps.toList.map fun c => T.str ⟨#[c]⟩).length = z.cps.size := by simp
  rw [el]
  refine walk_str.mono (fun _ _ => trivial) fun i H2 x H3 hi k2 ⟨e, c, hc, hx⟩ => ?_
  subst e hx
  exact ⟨.refl _ _, fun G' m' w' => ⟨w', fun hg => ⟨_, by simp [hc], .str _⟩⟩⟩, fun E n k k' hk q => h.mo _ _ _ _ (fun t m q => by cases t <;> first | exact hk _ _ q | cases q) q⟩
theorem eis_range1 (h : EA K p ta Wr) : EIS K p (iRng1 ta) (iRngT Wr) := ⟨fun G ad E n σ H R w rl q => by
  refine h.ev G ad E n σ H _ w rl (h.mo _ _ _ _ (fun ts m q vs H1 k1 w1 r1 => ?_) q)
  unfold iRngT at q
  split at q
  · rename_i j
    obtain ⟨⟨b1, b2⟩, q⟩ := ite_get q
    cases r1 with
    | cons r1 r2 =>
      cases r2
      refine ⟨j, by rw [r1.toInt], b1, b2, q _ H1 k1 w1 ⟨?_⟩⟩
      have el : ((List.range j.toNat).map fun i => T.int (i : Nat)).length = j.toNat := by simp
      rw [el]
      refine walk_range.mono (fun _ _ => trivial) fun i H2 x H3 hi k2 ⟨e, hx⟩ => ?_
      subst e hx
      exact ⟨.refl _ _, fun G' m' w' => ⟨w', fun hg => ⟨.int (i : Nat), by simp [hi], by show Tr.R K p _ _ (V.int (0 + (i : Nat))); rw [Int.zero_add]; exact .int _⟩⟩⟩
  · exact q.elim, fun E n k k' hk q => h.mo _ _ _ _ (fun ts m q => by
  split at q
  · exact ite_mono (hk _ _) q
  · exact q.elim) q⟩
end
/-! ### the state between statements -/
def GG (G0 : Addr → Prop) (ad : Nat → Addr) (E : En) : Addr → Prop := fun a => G0 a ∨ ∃ i t, E[i]? = some (.ow t) ∧ ad i = a
/-- a loop's start: what was hidden, how it stood; whose object slot 0 holds -/
abbrev Rfs := List ((Addr → Prop) × Hp × Option Addr)
/-- G0, H0: what is hidden, how it stood at the def's start; rf: how it stood at the loops that run -/
structure RelA (K : PySem.W.Frag) (p : Option Addr) (G0 : Addr → Prop) (H0 : Hp) (rf : Rfs) (ad : Nat → Addr) (E : En) (σ : L2.St) (n : Nat) (H : Hp) : Prop where
  kp : Kp p H0 H
  w : Wld p (GG G0 ad E) n H
  r : RelE K p (GG G0 ad E) ad E σ H
  g0 : ∀ a, G0 a → ∃ o, H0 a = some o
  s0 : ∀ a, p = some a → G0 a
  inj : ∀ i j t u, E[i]? = some (.ow t) → E[j]? = some (.ow u) → ad i = ad j → i = j
  fr : ∀ i t, E[i]? = some (.ow t) → H0 (ad i) = none
  rf : ∀ q ∈ rf, Kq q.1 q.2.1 H ∧ (∀ i t, E[i]? = some (.ow t) → q.1 (ad i) ∨ q.2.1 (ad i) = none) ∧ (∀ a, G0 a → q.1 a) ∧ ∀ x, q.2.2 = some x → ∀ C fs, E[0]? = some (.ow (.obj C fs)) → ad 0 = x
def RelS (K : PySem.W.Frag) (p : Option Addr) (G0 : Addr → Prop) (H0 : Hp) (rf : Rfs) (E : En) (σ : L2.St) (n : Nat) (H : Hp) : Prop := ∃ ad, RelA K p G0 H0 rf ad E σ n H
structure EndT where
  nx : En → Nat → Prop
  rt : KT
  bk : En → Nat → Prop := fun _ _ => False
  ct : En → Nat → Prop := fun _ _ => False
  ex : En → Addr → List (Str × T) → Nat → Prop := fun _ _ _ _ => False
structure EndT.le (D D' : EndT) : Prop where
  nx : ∀ E n, D.nx E n → D'.nx E n
  rt : ∀ t n, D.rt t n → D'.rt t n
  bk : ∀ E n, D.bk E n → D'.bk E n
  ct : ∀ E n, D.ct E n → D'.ct E n
  ex : ∀ E C fs n, D.ex E C fs n → D'.ex E C fs n
abbrev WS := En → Nat → EndT → Prop
/-- the ends told of trees -/
def toVx (fs : List (Str × T)) : List (Str × V) := fs.map fun f => (f.1, toV f.2)
structure Ends2 (K : PySem.W.Frag) (p : Option Addr) (G0 : Addr → Prop) (H0 : Hp) (rf : Rfs) (W : WX) (D : Ends) (D' : EndT) : Prop where
  nx : ∀ E m σ H, D'.nx E m → RelS K p G0 H0 rf E σ m H → D.nx σ H
  rt : ∀ t m v H, D'.rt t m → Kp p H0 H → Wld p G0 m H → R K p (hid G0 H) t v → D.rt v H
  bk : ∀ E m σ H, D'.bk E m → RelS K p G0 H0 rf E σ m H → D.bk σ H
  ct : ∀ E m σ H, D'.ct E m → RelS K p G0 H0 rf E σ m H → D.ct σ H
  ex : ∀ E C fs m σ H d, D'.ex E C fs m → RelS K p G0 H0 rf E σ m H → H d = some (.xd (toVx fs)) → W (.ref C) (some d) σ H
structure ES (K : PySem.W.Frag) (p : Option Addr) (X : WX) (ts : TS) (W : WS) : Prop where
  ev : ∀ (G0 : Addr → Prop) (H0 : Hp) (rf : Rfs) (E : En) (n : Nat) (σ : L2.St) (H : Hp) (D : Ends) (D' : EndT), RelS K p G0 H0 rf E σ n H → Ends2 K p G0 H0 rf X D D' → W E n D' → ts D σ H
  mo : ∀ E n D D', D.le D' → W E n D → W E n D'
section
variable {K : PySem.W.Frag} {p : Option Addr} {G0 : Addr → Prop} {H0 H H' : Hp} {rf : Rfs} {ad : Nat → Addr} {E : En} {σ : L2.St} {n m : Nat}
theorem EndT.le.refl (D : EndT) : D.le D := ⟨fun _ _ h => h, fun _ _ h => h, fun _ _ h => h, fun _ _ h => h, fun _ _ _ _ h => h⟩
/-- behind an expression -/
theorem RelA.kpS (r : RelA K p G0 H0 rf ad E σ n H) (k : Kp p H H') (w : Wld p (GG G0 ad E) m H') : RelA K p G0 H0 rf ad E σ m H' :=
  ⟨r.kp.trans k, w, r.r.kp r.w.hd k, r.g0, r.s0, r.inj, r.fr, fun q hq => let ⟨a, b, c, d⟩ := r.rf q hq; ⟨fun x o g e => k x o (fun z => g (c x (r.s0 x z))) (a x o g e), b, c, d⟩⟩
/-- less is hidden -/
theorem RelA.shrink {E' : En} {σ' : L2.St} (r : RelA K p G0 H0 rf ad E σ n H) (ho : ∀ (i : Nat) (t : T), E'[i]? = some (Sl.ow t) → E[i]? = some (Sl.ow t)) (re : RelE K p (GG G0 ad E) ad E' σ' H) : RelA K p G0 H0 rf ad E' σ' n H := by
  have hg : ∀ a, GG G0 ad E' a → GG G0 ad E a := fun a z => z.elim .inl fun ⟨i, t, e, h⟩ => .inr ⟨i, t, ho i t e, h⟩
  have sm : Same (hid (GG G0 ad E) H) (hid (GG G0 ad E') H) := hid_anti hg
  refine ⟨r.kp, ⟨fun a z => r.w.gok a (hg a z), fun a e => ⟨.inl (r.s0 a e), (r.w.src a e).2⟩⟩, ⟨re.len, fun i t e => ?_, fun i t e => ?_⟩, r.g0, r.s0, fun i j t u e1 e2 => r.inj i j t u (ho i t e1) (ho j u e2), fun i t e => r.fr i t (ho i t e), fun q hq => let ⟨a, b, c, d⟩ := r.rf q hq; ⟨a, fun i t e => b i t (ho i t e), c, fun x hx C fs e => d x hx C fs (ho 0 _ e)⟩⟩
  · obtain ⟨v, e1, h⟩ := re.sh i t e
    exact ⟨v, e1, h.mono sm⟩
  · obtain ⟨e1, g, n1, c⟩ := re.ow i t e
    refine ⟨e1, .inr ⟨i, t, e, rfl⟩, n1, ?_⟩
    cases c with
    | lst h r => exact .lst h (r.mono sm)
    | dic h r => exact .dic h (r.mono sm)
    | obj h r l => exact .obj h (r.mono sm) l
/-- a value of its own, new, at slot i -/
theorem RelA.own (r : RelA K p G0 H0 rf ad E σ n H) {i : Nat} {a : Addr} {t : T} (k : Kp p H H') (w : Wld p (GG G0 ad E) m H') (ha : H a = none) (c : Cont K p (hid (GA (GG G0 ad E) a) H') H' a t) (no : ∀ C fs, t ≠ .obj C fs) :
    RelA K p G0 H0 rf (fun j => if j = i then a else ad j) (E.set i (.ow t)) (σ.set i (some (.ref a))) m H' := by
  have hna : ∀ j u, E[j]? = some (.ow u) → ad j ≠ a := fun j u e z => by
    obtain ⟨o, ho⟩ := r.w.gok (ad j) (.inr ⟨j, u, e, rfl⟩)
    rw [z, ha] at ho
    cases ho
  have at_ : ∀ j u, (E.set i (.ow t))[j]? = some (.ow u) → (j = i ∧ u = t) ∨ (j ≠ i ∧ E[j]? = some (.ow u)) := fun j u e => by
    by_cases ij : i = j
    · subst ij
      have hi := (List.getElem?_eq_some_iff.mp e).1
      rw [List.length_set] at hi
      rw [List.getElem?_set_self hi] at e
      cases e
      exact .inl ⟨rfl, rfl⟩
    · rw [List.getElem?_set_ne ij] at e
      exact .inr ⟨fun z => ij z.symm, e⟩
  generalize hE : E.set i (.ow t) = E' at at_
  have hg : ∀ b, GG G0 (fun j => if j = i then a else ad j) E' b → GA (GG G0 ad E) a b := fun b z => z.elim (fun z => .inl (.inl z)) fun ⟨j, u, e, h⟩ => by
    rcases at_ j u e with ⟨rfl, rfl⟩ | ⟨hj, e⟩
    · simp only [if_pos] at h
      exact .inr h.symm
    · simp only [if_neg hj] at h
      exact .inl (.inr ⟨j, u, e, h⟩)
  have sm : Same (hid (GG G0 ad E) H) (hid (GG G0 (fun j => if j = i then a else ad j) E') H') := k.hid2 r.w.hd fun b z => (hg b z).elim .inl fun e => .inr (e ▸ ha)
  have nsrc : p ≠ some a := r.w.nsrc ha
  refine ⟨r.kp.trans k, ⟨fun b z => ?_, fun b e => ⟨.inl (r.s0 b e), (w.src b e).2⟩⟩, ⟨?_, fun j u e => ?_, fun j u e => ?_⟩, r.g0, r.s0, fun j l u v e1 e2 h => ?_, fun j u e => ?_, fun q hq => ?_⟩
  · rcases hg b z with z | z
    · exact w.gok b z
    · subst z
      cases c with
      | lst h _ => exact ⟨_, h⟩
      | dic h _ => exact ⟨_, h⟩
      | obj h _ _ => exact ⟨_, h⟩
  · rw [← hE, List.length_set, List.length_set]
    exact r.r.len
  · rw [← hE] at e
    by_cases ij : i = j
    · subst ij
      have hi := (List.getElem?_eq_some_iff.mp e).1
      rw [List.length_set] at hi
      rw [List.getElem?_set_self hi] at e
      cases e
    · rw [List.getElem?_set_ne ij] at e ⊢
      obtain ⟨v, e1, h⟩ := r.r.sh j u e
      exact ⟨v, e1, h.mono sm⟩
  · have e0 := e
    rcases at_ j u e with ⟨rfl, rfl⟩ | ⟨hj, e⟩
    · simp only [if_pos]
      refine ⟨?_, .inr ⟨_, _, e0, by simp⟩, nsrc, ?_⟩
      · rw [← hE] at e0
        have hi := (List.getElem?_eq_some_iff.mp e0).1
        rw [List.length_set] at hi
        exact List.getElem?_set_self (by rw [r.r.len]; exact hi)
      · cases c with
        | lst h s => exact .lst h (s.mono (hid_anti hg))
        | dic h s => exact .dic h (s.mono (hid_anti hg))
        | obj h s l => exact .obj h (s.mono (hid_anti hg)) l
    · simp only [if_neg hj]
      obtain ⟨e1, g, n1, c1⟩ := r.r.ow j u e
      refine ⟨by rw [List.getElem?_set_ne (fun z => hj z.symm)]; exact e1, .inr ⟨j, u, e0, by simp [hj]⟩, n1, ?_⟩
      cases c1 with
      | lst h s => exact .lst (k _ _ n1 h) (s.mono sm)
      | dic h s => exact .dic (k _ _ n1 h) (s.mono sm)
      | obj h s l => exact .obj (k _ _ n1 h) (s.mono sm) l
  · rcases at_ j u e1 with ⟨rfl, _⟩ | ⟨hj, e1⟩
    · rcases at_ l v e2 with ⟨rfl, _⟩ | ⟨hl, e2⟩
      · rfl
      · simp only [if_pos, if_neg hl] at h
        exact absurd h.symm (hna l v e2)
    · rcases at_ l v e2 with ⟨rfl, _⟩ | ⟨hl, e2⟩
      · simp only [if_pos, if_neg hj] at h
        exact absurd h (hna j u e1)
      · simp only [if_neg hj, if_neg hl] at h
        exact r.inj j l u v e1 e2 h
  · rcases at_ j u e with ⟨rfl, _⟩ | ⟨hj, e⟩
    · simp only [if_pos]
      cases z : H0 a with
      | none => rfl
      | some o =>
        have := r.kp a o nsrc z
        rw [ha] at this
        cases this
    · simp only [if_neg hj]
      exact r.fr j u e
  · obtain ⟨k1, b1, c1, d1⟩ := r.rf q hq
    refine ⟨fun x o g e => k x o (fun z => g (c1 x (r.s0 x z))) (k1 x o g e), fun j u e => ?_, c1, fun x hx C fs e => ?pin⟩
    case pin =>
      rcases at_ 0 _ e with ⟨_, h⟩ | ⟨hj, e⟩
      · exact absurd h.symm (no C fs)
      · simp only [if_neg hj]
        exact d1 x hx C fs e
    rcases at_ j u e with ⟨rfl, _⟩ | ⟨hj, e⟩
    · simp only [if_pos]
      by_cases gq : q.1 a
      · exact .inl gq
      · cases z : q.2.1 a with
        | none => exact .inr rfl
        | some o =>
          have := k1 a o gq z
          rw [ha] at this
          cases this
    · simp only [if_neg hj]
      exact b1 j u e
/-- what is owned changes -/
theorem RelA.mutate (r : RelA K p G0 H0 rf ad E σ n H) {i : Nat} {t u : T} {o : HO} (e : E[i]? = some (.ow t)) (c : Cont K p (hid (GG G0 ad E) H) (upd H (ad i) o) (ad i) u) (ho : (∃ D gs, t = .obj D gs) ∨ ∀ C fs, u ≠ .obj C fs) : RelA K p G0 H0 rf ad (E.set i (.ow u)) σ n (upd H (ad i) o) := by
  obtain ⟨e1, g1, n1, c1⟩ := r.r.ow i t e
  have at_ : ∀ j v, (E.set i (.ow u))[j]? = some (.ow v) → (j = i ∧ v = u) ∨ (j ≠ i ∧ E[j]? = some (.ow v)) := fun j v e => by
    by_cases ij : i = j
    · subst ij
      have hi := (List.getElem?_eq_some_iff.mp e).1
      rw [List.length_set] at hi
      rw [List.getElem?_set_self hi] at e
      cases e
      exact .inl ⟨rfl, rfl⟩
    · rw [List.getElem?_set_ne ij] at e
      exact .inr ⟨fun z => ij z.symm, e⟩
  generalize hE : E.set i (.ow u) = E' at at_
  have hg : ∀ b, GG G0 ad E' b → GG G0 ad E b := fun b z => z.elim .inl fun ⟨j, v, e2, h⟩ => by
    rcases at_ j v e2 with ⟨rfl, _⟩ | ⟨_, e2⟩
    · exact .inr ⟨_, t, e, h⟩
    · exact .inr ⟨j, v, e2, h⟩
  have sm : Same (hid (GG G0 ad E) H) (hid (GG G0 ad E') (upd H (ad i) o)) := fun b x hb => by
    obtain ⟨nb, hb⟩ := hid_to hb
    exact hid_of (fun z => nb (hg b z)) (by rw [upd_ne (fun z => nb (by rw [z]; exact g1))]; exact hb)
  refine ⟨fun b x nb hb => ?_, ⟨fun b z => ?_, fun b z => ⟨.inl (r.s0 b z), ?_⟩⟩, ⟨?_, fun j v e2 => ?_, fun j v e2 => ?_⟩, r.g0, r.s0, fun j l v x e2 e3 h => ?_, fun j v e2 => ?_, fun q hq => ?_⟩
  · rw [upd_ne (fun z => by rw [z, r.fr i t e] at hb; cases hb)]
    exact r.kp b x nb hb
  · by_cases z2 : b = ad i
    · subst z2
      exact ⟨_, upd_same⟩
    · rw [upd_ne z2]
      exact r.w.gok b (hg b z)
  · obtain ⟨g, s, c0, e0, rest⟩ := (r.w.src b z).2
    exact ⟨g, s, c0, by rw [upd_ne (fun y => n1 (by rw [← y]; exact z))]; exact e0, rest⟩
  · rw [← hE, List.length_set]
    exact r.r.len
  · rw [← hE] at e2
    by_cases ij : i = j
    · subst ij
      have hi := (List.getElem?_eq_some_iff.mp e2).1
      rw [List.length_set] at hi
      rw [List.getElem?_set_self hi] at e2
      cases e2
    · rw [List.getElem?_set_ne ij] at e2
      obtain ⟨v', e3, h⟩ := r.r.sh j v e2
      exact ⟨v', e3, h.mono sm⟩
  · have e0 := e2
    rcases at_ j v e2 with ⟨rfl, rfl⟩ | ⟨hj, e2⟩
    · refine ⟨e1, .inr ⟨_, _, e0, rfl⟩, n1, ?_⟩
      cases c with
      | lst h s => exact .lst h (s.mono sm)
      | dic h s => exact .dic h (s.mono sm)
      | obj h s l => exact .obj h (s.mono sm) l
    · obtain ⟨e3, g3, n3, c3⟩ := r.r.ow j v e2
      have hne : ad j ≠ ad i := fun z => hj (r.inj j i v t e2 e z)
      refine ⟨e3, .inr ⟨j, v, e0, rfl⟩, n3, ?_⟩
      cases c3 with
      | lst h s => exact .lst (by rw [upd_ne hne]; exact h) (s.mono sm)
      | dic h s => exact .dic (by rw [upd_ne hne]; exact h) (s.mono sm)
      | obj h s l => exact .obj (by rw [upd_ne hne]; exact h) (s.mono sm) l
  · have f : ∀ (j : Nat) (v : T), E'[j]? = some (Sl.ow v) → ∃ v', E[j]? = some (Sl.ow v') := fun j v e2 => by
      rcases at_ j v e2 with ⟨rfl, _⟩ | ⟨_, e2⟩
      · exact ⟨t, e⟩
      · exact ⟨v, e2⟩
    obtain ⟨v1, h1⟩ := f j v e2
    obtain ⟨v2, h2⟩ := f l x e3
    exact r.inj j l v1 v2 h1 h2 h
  · rcases at_ j v e2 with ⟨rfl, _⟩ | ⟨_, e2⟩
    · exact r.fr _ t e
    · exact r.fr j v e2
  · obtain ⟨k1, b1, c1', d1⟩ := r.rf q hq
    refine ⟨fun x y g hx => ?_, fun j v e2 => ?_, c1', fun x hx C fs e2 => ?pin⟩
    case pin =>
      rcases at_ 0 _ e2 with ⟨h0, h⟩ | ⟨_, e2⟩
      · rcases ho with ⟨D, gs, rfl⟩ | ho
        · subst h0
          exact d1 x hx D gs e
        · exact absurd h.symm (ho C fs)
      · exact d1 x hx C fs e2
    · rw [upd_ne (fun z => ?_)]
      · exact k1 x y g hx
      · subst z
        rcases b1 i t e with z | z
        · exact g z
        · rw [hx] at z; cases z
    · rcases at_ j v e2 with ⟨rfl, _⟩ | ⟨_, e2⟩
      · exact b1 _ t e
      · exact b1 j v e2
end
end Tr
/-! ## Tr6 -/
set_option Elab.async false
set_option linter.all false
set_option maxRecDepth 100000
set_option maxHeartbeats 4000000
/-! Tr6: the statements' rules, a def's promise told of trees; own work. -/
namespace Tr
open PySem PySem.Spec PyProof.Rows L2 Sl
section
variable {K : PySem.W.Frag} {p : Option Addr} {te ta tb td : TE} {t1 t2 tb' : TS} {Xw : WX} {We Wa Wb : WE} {W1 W2 : WS} {tt : TT} {Wt : WB} {g : TG} {ix : List Nat} {Wg : WG} {wi : TI} {Wi : WA} {tr : TA} {Wr : WA}
def sNil : WS := fun E n D => D.nx E n
theorem es_nil : ES K p Xw tNext sNil := ⟨fun G0 H0 rf E n σ H D D' r e q => e.nx E n σ H q r, fun E n D D' l q => l.nx _ _ q⟩
def sSeq (W1 W2 : WS) : WS := fun E n D => W1 E n { D with nx := fun E' m => W2 E' m D }
theorem es_seq (h1 : ES K p Xw t1 W1) (h2 : ES K p Xw t2 W2) : ES K p Xw (tSeq t1 t2) (sSeq W1 W2) :=
  ⟨fun G0 H0 rf E n σ H D D' r e q => h1.ev G0 H0 rf E n σ H _ { D' with nx := fun E' m => W2 E' m D' } r ⟨fun E m σ H q r => h2.ev G0 H0 rf E m σ H D D' r e q, e.rt, e.bk, e.ct, e.ex⟩ q,
   fun E n D D' l q => h1.mo E n { D with nx := fun E' m => W2 E' m D } { D' with nx := fun E' m => W2 E' m D' } ⟨fun E m q => h2.mo _ _ _ _ l q, l.rt, l.bk, l.ct, l.ex⟩ q⟩
/-- an expression's tree into a target -/
def sAsg (We : WE) (Wg : WG) : WS := fun E n D => We E n fun t m => Wg t E fun E' => D.nx E' m
theorem es_asg (he : ET K p te We) (hg : EG K p g ix Wg) : ES K p Xw (tAsg te g) (sAsg We Wg) := ⟨fun G0 H0 rf E n σ H D D' ⟨ad, r⟩ e q => by
  refine he.ev (GG G0 ad E) ad E n σ H _ r.w r.r (he.mo _ _ _ _ (fun t m q v H1 k1 w1 r1 => ?_) q)
  refine hg.ev (GG G0 ad E) ad E σ H1 t v _ (r.r.kp r.w.hd k1) r1 (hg.mo _ _ _ _ (fun E' ⟨q, ho⟩ σ' re l f => ?_) (hg.ow _ _ _ q))
  exact e.nx E' m σ' H1 q ⟨ad, (r.kpS k1 w1).shrink ho re⟩, fun E n D D' l q => he.mo _ _ _ _ (fun t m q => hg.mo _ _ _ _ (fun E' q => l.nx _ _ q) q) q⟩
/-- a list or dict of the def's own -/
def isLD : T → Bool | .lst _ => true | .dic _ => true | _ => false
theorem isLD_no {t : T} (h : isLD t = true) : ∀ C fs, t ≠ .obj C fs := fun C fs e => by
  subst e
  cases h
def sOwn (We : WE) (i : Nat) : WS := fun E n D => We E n fun t m => if isLD t = true then D.nx (E.set i (.ow t)) m else False
theorem es_own (i : Nat) (he : EN K p te We) : ES K p Xw (tAsg te (gName i)) (sOwn We i) := ⟨fun G0 H0 rf E n σ H D D' ⟨ad, r⟩ e q => by
  refine he.ev (GG G0 ad E) ad E n σ H _ r.w r.r (he.mo _ _ _ _ (fun t m q a H1 k1 w1 ha c => ?_) q)
  obtain ⟨ht, q⟩ := ite_get q
  exact e.nx _ m _ H1 q ⟨_, r.own k1 w1 ha c (isLD_no ht)⟩, fun E n D D' l q => he.mo _ _ _ _ (fun t m q => ite_mono (l.nx _ _) q) q⟩
def owL (E : En) (i : Nat) : Option (List T) := match E[i]? with | some (.ow (.lst xs)) => some xs | _ => none
def owD (E : En) (i : Nat) : Option (List (Str × T)) := match E[i]? with | some (.ow (.dic xs)) => some xs | _ => none
theorem owL_eq {E : En} {i : Nat} {xs : List T} (h : owL E i = some xs) : E[i]? = some (.ow (.lst xs)) := by
  unfold owL at h
  split at h
  · cases h; assumption
  · cases h
theorem owD_eq {E : En} {i : Nat} {xs : List (Str × T)} (h : owD E i = some xs) : E[i]? = some (.ow (.dic xs)) := by
  unfold owD at h
  split at h
  · cases h; assumption
  · cases h
/-- xs.append(e) -/
def sApp (i : Nat) (We : WE) : WS := fun E n D => opt (owL E i) fun xs => We E n fun y m => if xs.length < sizeLine then D.nx (E.set i (.ow (.lst (xs ++ [y])))) m else False
theorem es_app (i : Nat) (he : ET K p te We) : ES K p Xw (tDrop (tBM K "list" rAppend (tVar i) (tCons te tNil))) (sApp i We) := ⟨fun G0 H0 rf E n σ H D D' ⟨ad, r⟩ e q => by
  obtain ⟨xs, ex, q⟩ := opt_some q
  have ex := owL_eq ex
  obtain ⟨e1, g1, n1, c1⟩ := r.r.ow i _ ex
  cases c1 with
  | lst h s =>
    refine ⟨_, e1, .inl ⟨rfl, _, SqL.of h⟩, ?_⟩
    refine he.ev (GG G0 ad E) ad E n σ H _ r.w r.r (he.mo _ _ _ _ (fun y m q v H1 k1 w1 r1 => ?_) q)
    obtain ⟨hz, q⟩ := ite_get q
    have h1 := k1 _ _ n1 h
    have s1 := s.kp r.w.hd k1
    refine ⟨_, _, _, rfl, rfl, h1, by rw [s.length]; exact hz, ?_⟩
    refine e.nx _ m σ _ q ⟨ad, (r.kpS k1 w1).mutate ex (.lst upd_same (s1.app (.one r1))) (.inr fun _ _ z => nomatch z)⟩, fun E n D D' l q => opt_mono (fun xs q => he.mo _ _ _ _ (fun y m q => ite_mono (l.nx _ _) q) q) q⟩
/-- xs.extend(ys) -/
def sExt (i : Nat) (We : WE) : WS := fun E n D => opt (owL E i) fun xs => We E n fun y m => match y with | .lst ys => if xs.length + ys.length ≤ sizeLine then D.nx (E.set i (.ow (.lst (xs ++ ys)))) m else False | _ => False
theorem es_ext (i : Nat) (he : EX K p te We) : ES K p Xw (tDrop (tBM K "list" rExtend (tVar i) (tCons te tNil))) (sExt i We) := ⟨fun G0 H0 rf E n σ H D D' ⟨ad, r⟩ e q => by
  obtain ⟨xs, ex, q⟩ := opt_some q
  have ex := owL_eq ex
  obtain ⟨e1, g1, n1, c1⟩ := r.r.ow i _ ex
  cases c1 with
  | lst h s =>
    refine ⟨_, e1, .inl ⟨rfl, _, SqL.of h⟩, ?_⟩
    refine he.ev (GG G0 ad E) ad E n σ H _ r.w r.r (he.mo _ _ _ _ (fun y m q v H1 k1 w1 r1 => ?_) q)
    cases y <;> try cases q
    obtain ⟨hz, q⟩ := ite_get q
    have h1 := k1 _ _ n1 h
    have s1 := s.kp r.w.hd k1
    obtain ⟨b, ws, rfl, hb, sb⟩ := r1.list
    refine ⟨_, b, _, ws, rfl, rfl, h1, hb, by rw [s.length, sb.length]; exact hz, ?_⟩
    refine e.nx _ m σ _ q ⟨ad, (r.kpS k1 w1).mutate ex (.lst upd_same (s1.app sb)) (.inr fun _ _ z => nomatch z)⟩, fun E n D D' l q => opt_mono (fun xs q => he.mo _ _ _ _ (fun y m q => by cases y <;> first | exact ite_mono (l.nx _ _) q | cases q) q) q⟩
/-- x = xs.pop(k) -/
def sPopAt (i j : Nat) (We : WE) : WS := fun E n D => opt (owL E i) fun xs => We E n fun y m => match y with | .int k => if 0 ≤ k ∧ k < 2 ^ 63 then opt xs[k.toNat]? fun t => flatT t = true ∧ D.nx ((E.set i (.ow (.lst (xs.eraseIdx k.toNat)))).set j (.sh t)) m else False | _ => False
theorem seqIndex_nat {k : Int} {n : Nat} (h0 : 0 ≤ k) (h : k.toNat < n) : seqIndex? k n = some k.toNat := by
  unfold seqIndex?
  simp only []
  have : ¬ k < 0 := by omega
  simp [this]
  omega
theorem Rs.erase {H : Hp} {ts : List T} {vs : List V} (h : Rs K p H ts vs) (i : Nat) : Rs K p H (ts.eraseIdx i) (vs.eraseIdx i) := by
  induction i generalizing ts vs with
  | zero =>
    cases h with
    | nil => exact .nil
    | cons h1 h2 => exact h2
  | succ i ih =>
    cases h with
    | nil => exact .nil
    | cons h1 h2 => exact .cons h1 (ih h2)
theorem es_popAt (i j : Nat) (he : ET K p te We) : ES K p Xw (tAsg (tBM K "list" rPopAt (tVar i) (tCons te tNil)) (gName j)) (sPopAt i j We) := ⟨fun G0 H0 rf E n σ H D D' ⟨ad, r⟩ e q => by
  obtain ⟨xs, ex, q⟩ := opt_some q
  have ex := owL_eq ex
  obtain ⟨e1, g1, n1, c1⟩ := r.r.ow i _ ex
  cases c1 with
  | @lst vs _ h s =>
    refine ⟨_, e1, .inl ⟨rfl, _, SqL.of h⟩, ?_⟩
    refine he.ev (GG G0 ad E) ad E n σ H _ r.w r.r (he.mo _ _ _ _ (fun y m q v H1 k1 w1 r1 => ?_) q)
    cases y <;> try cases q
    rename_i k
    obtain ⟨⟨b1, b2⟩, q⟩ := ite_get q
    obtain ⟨t, et, hf, q⟩ := opt_some q
    have h1 := k1 _ _ n1 h
    have s1 := s.kp r.w.hd k1
    obtain ⟨u, eu, ru⟩ := s1.get et
    have hk : k.toNat < vs.length := (List.getElem?_eq_some_iff.mp eu).1
    refine ⟨_, _, k, k.toNat, u, rfl, by rw [r1.toInt], h1, by omega, b2, seqIndex_nat b1 hk, eu, ?_⟩
    have r2 := (r.kpS k1 w1).mutate ex (o := .lst (vs.eraseIdx k.toNat)) (.lst upd_same (s1.erase k.toNat)) (.inr fun _ _ z => nomatch z)
    obtain ⟨ev, _⟩ := flat_toV (G := GG G0 ad E) hf (.inl ru)
    have r3 : R K p (hid (GG G0 ad (E.set i (.ow (.lst (xs.eraseIdx k.toNat))))) (upd H1 (ad i) (.lst (vs.eraseIdx k.toNat)))) t u := by
      subst ev
      cases t <;> first | exact .non | exact .bl _ | exact .int _ | exact .str _ | cases hf
    exact e.nx _ m _ _ q ⟨ad, r2.shrink (fun _ _ e => ow_set e) (r2.r.set r3)⟩, fun E n D D' l q => opt_mono (fun xs q => he.mo _ _ _ _ (fun y m q => by cases y <;> first | exact ite_mono (opt_mono fun t q => ⟨q.1, l.nx _ _ q.2⟩) q | cases q) q) q⟩
/-- d[k] = v -/
theorem any_rk {H : Hp} {kvs : List (Str × T)} {ws : List (Key × V)} (r : Rk K p H kvs ws) (x : Str) : (ws.any fun kv => decide (kv.1 = .inr x)) = kvs.any fun kv => decide (kv.1 = x) := by
  induction kvs generalizing ws with
  | nil => cases r; rfl
  | cons kv rest ih =>
    cases r with
    | cons h1 h2 =>
      rw [List.any_cons, List.any_cons, ih h2]
      congr 1
      rw [decide_eq_decide]
      exact ⟨fun e => Sum.inr.inj e, fun e => congrArg _ e⟩
theorem Rk.app {H : Hp} {a b : List (Str × T)} {c d : List (Key × V)} (h : Rk K p H a c) (g : Rk K p H b d) : Rk K p H (a ++ b) (c ++ d) := by
  induction a generalizing c with
  | nil => cases h; exact g
  | cons _ r ih => cases h with | cons h1 h2 => exact .cons h1 (ih h2)
def putT (kvs : List (Str × T)) (x : Str) (t : T) : List (Str × T) := if (kvs.any fun kv => decide (kv.1 = x)) = true then kvs.map (fun kv => if kv.1 = x then (kv.1, t) else kv) else kvs ++ [(x, t)]
theorem Rk.map_put {H : Hp} {kvs : List (Str × T)} {ws : List (Key × V)} {x : Str} {t : T} {v : V} (r : Rk K p H kvs ws) (h : R K p H t v) :
    Rk K p H (kvs.map fun kv => if kv.1 = x then (kv.1, t) else kv) (ws.map fun kv => if kv.1 = Sum.inr x then (kv.1, v) else kv) := by
  induction kvs generalizing ws with
  | nil => cases r; exact .nil
  | cons kv rest ih =>
    cases r with
    | @cons y u w _ _ h1 h2 =>
      rw [List.map_cons, List.map_cons]
      by_cases e : y = x
      · subst e
        simp only [if_pos]
        exact .cons h (ih h2)
      · have e' : ¬ (Sum.inr y : Key) = Sum.inr x := fun z => e (Sum.inr.inj z)
        simp only [if_neg e, if_neg e']
        exact .cons h1 (ih h2)
theorem Rk.put {H : Hp} {kvs : List (Str × T)} {ws : List (Key × V)} {x : Str} {t : T} {v : V} (r : Rk K p H kvs ws) (h : R K p H t v) : Rk K p H (putT kvs x t) (putK ws (.inr x) v) := by
  unfold putT putK
  rw [any_rk r]
  split
  · exact r.map_put h
  · exact r.app (.cons h .nil)
theorem Rk.length {H : Hp} {kvs : List (Str × T)} {ws : List (Key × V)} (r : Rk K p H kvs ws) : ws.length = kvs.length := by
  induction kvs generalizing ws with
  | nil => cases r; rfl
  | cons kv rest ih => cases r with | cons h1 h2 => rw [List.length_cons, List.length_cons, ih h2]
def sPut (i : Nat) (Wa Wb : WE) : WS := fun E n D => Wb E n fun y m => opt (owD E i) fun kvs => Wa E m fun k m' => match k with | .str x => if kvs.length < sizeLine then D.nx (E.set i (.ow (.dic (putT kvs x y)))) m' else False | _ => False
theorem es_put (i : Nat) (ha : ET K p ta Wa) (hb : ET K p tb Wb) : ES K p Xw (sDPut (tVar i) ta tb) (sPut i Wa Wb) := ⟨fun G0 H0 rf E n σ H D D' ⟨ad, r⟩ e q => by
  refine hb.ev (GG G0 ad E) ad E n σ H _ r.w r.r (hb.mo _ _ _ _ (fun y m q v H1 k1 w1 r1 => ?_) q)
  obtain ⟨kvs, ex, q⟩ := opt_some q
  have ex := owD_eq ex
  obtain ⟨e1, g1, n1, c1⟩ := r.r.ow i _ ex
  have rr := r.kpS k1 w1
  refine ⟨_, e1, ha.ev (GG G0 ad E) ad E m σ H1 _ w1 rr.r (ha.mo _ _ _ _ (fun k m' q u H2 k2 w2 r2 => ?_) q)⟩
  cases k <;> try cases q
  rename_i x
  obtain ⟨hz, q⟩ := ite_get q
  cases c1 with
  | dic h s =>
    have h2 := k2 _ _ n1 (k1 _ _ n1 h)
    have s2 := (s.mono (k1.hid r.w.hd)).mono (k2.hid r.w.hd)
    refine ⟨_, _, rfl, by rw [r2.toStr]; exact DPut.k (k := .inr x) h2 (by rw [s.length]; exact hz), ?_⟩
    exact e.nx _ m' σ _ q ⟨ad, (rr.kpS k2 w2).mutate ex (.dic upd_same (s2.put (r1.kp r.w.hd k2))) (.inr fun _ _ z => nomatch z)⟩, fun E n D D' l q => hb.mo _ _ _ _ (fun y m q => opt_mono (fun kvs q => ha.mo _ _ _ _ (fun k m' q => by cases k <;> first | exact ite_mono (l.nx _ _) q | cases q) q) q) q⟩
/-- if -/
def sIf (Wt : WB) (W1 W2 : WS) : WS := fun E n D => Wt E n fun b m => if b = true then W1 E m D else W2 E m D
theorem es_if (ht : EB K p tt Wt) (h1 : ES K p Xw t1 W1) (h2 : ES K p Xw t2 W2) : ES K p Xw (tIfS tt t1 t2) (sIf Wt W1 W2) := ⟨fun G0 H0 rf E n σ H D D' ⟨ad, r⟩ e q => by
  refine ht.ev (GG G0 ad E) ad E n σ H _ r.w r.r (ht.mo _ _ _ _ (fun b m q H1 k1 w1 => ?_) q)
  cases b with
  | true => exact h1.ev G0 H0 rf E m σ H1 D D' ⟨ad, r.kpS k1 w1⟩ e q
  | false => exact h2.ev G0 H0 rf E m σ H1 D D' ⟨ad, r.kpS k1 w1⟩ e q, fun E n D D' l q => ht.mo _ _ _ _ (fun b m q => by
  cases b with
  | true => exact h1.mo _ _ _ _ l q
  | false => exact h2.mo _ _ _ _ l q) q⟩
/-- return e -/
def sRet (We : WE) : WS := fun E n D => We E n D.rt
theorem es_ret (he : ET K p te We) : ES K p Xw (tRet te) (sRet We) := ⟨fun G0 H0 rf E n σ H D D' ⟨ad, r⟩ e q => by
  refine he.ev (GG G0 ad E) ad E n σ H _ r.w r.r (he.mo _ _ _ _ (fun t m q v H1 k1 w1 r1 => ?_) q)
  exact e.rt t m v H1 q (r.kp.trans k1) ⟨fun a z => w1.gok a (.inl z), fun a z => ⟨r.s0 a z, (w1.src a z).2⟩⟩ (r1.mono (hid_anti fun a z => .inl z)), fun E n D D' l q => he.mo _ _ _ _ (fun t m q => l.rt _ _ q) q⟩
/-- an own list or dict that changes no more -/
def sFrz (i : Nat) (W : WS) : WS := fun E n D => match E[i]? with | some (.ow t) => W (E.set i (.sh t)) n D | _ => False
theorem RelA.frz {G0 : Addr → Prop} {H0 H : Hp} {rf : Rfs} {ad : Nat → Addr} {E : En} {σ : L2.St} {n i : Nat} {t : T} (r : RelA K p G0 H0 rf ad E σ n H) (e : E[i]? = some (.ow t)) : RelA K p G0 H0 rf ad (E.set i (.sh t)) σ n H := by
  obtain ⟨e1, g1, n1, c1⟩ := r.r.ow i t e
  have hg : ∀ a, GG G0 ad (E.set i (.sh t)) a → GG G0 ad E a := fun a z => z.elim .inl fun ⟨j, u, e, h⟩ => .inr ⟨j, u, ow_set e, h⟩
  have ng : ¬ GG G0 ad (E.set i (.sh t)) (ad i) := fun z => by
    rcases z with z | ⟨j, u, e2, h⟩
    · obtain ⟨o, ho⟩ := r.g0 _ z
      rw [r.fr i t e] at ho
      cases ho
    · have ij := r.inj j i u t (ow_set e2) e h
      subst ij
      have hi := (List.getElem?_eq_some_iff.mp e2).1
      rw [List.length_set] at hi
      rw [List.getElem?_set_self hi] at e2
      cases e2
  have sm : Same (hid (GG G0 ad E) H) (hid (GG G0 ad (E.set i (.sh t))) H) := hid_anti hg
  have c : R K p (hid (GG G0 ad (E.set i (.sh t))) H) t (.ref (ad i)) := by
    cases c1 with
    | lst h s => exact .lst (hid_of ng h) (s.mono sm)
    | dic h s => exact .dic (hid_of ng h) (s.mono sm)
    | obj h s l => exact .obj (hid_of ng h) (s.mono sm)
  refine ⟨r.kp, ⟨fun a z => r.w.gok a (hg a z), fun a z => ⟨.inl (r.s0 a z), (r.w.src a z).2⟩⟩, ⟨by rw [List.length_set]; exact r.r.len, fun j u e2 => ?_, fun j u e2 => ?_⟩, r.g0, r.s0, fun j l u v e2 e3 => r.inj j l u v (ow_set e2) (ow_set e3), fun j u e2 => r.fr j u (ow_set e2), fun q hq => let ⟨a, b, c, d⟩ := r.rf q hq; ⟨a, fun j u e2 => b j u (ow_set e2), c, fun x hx C fs e2 => d x hx C fs (ow_set e2)⟩⟩
  · by_cases ij : i = j
    · subst ij
      have hi := (List.getElem?_eq_some_iff.mp e2).1
      rw [List.length_set] at hi
      rw [List.getElem?_set_self hi] at e2
      cases e2
      exact ⟨_, e1, c⟩
    · rw [List.getElem?_set_ne ij] at e2
      obtain ⟨v, e3, h⟩ := r.r.sh j u e2
      exact ⟨v, e3, h.mono sm⟩
  · obtain ⟨e3, g3, n3, c3⟩ := r.r.ow j u (ow_set e2)
    refine ⟨e3, .inr ⟨j, u, e2, rfl⟩, n3, ?_⟩
    cases c3 with
    | lst h s => exact .lst h (s.mono sm)
    | dic h s => exact .dic h (s.mono sm)
    | obj h s l => exact .obj h (s.mono sm) l
theorem es_frz (i : Nat) (h : ES K p Xw t1 W1) : ES K p Xw t1 (sFrz i W1) := ⟨fun G0 H0 rf E n σ H D D' ⟨ad, r⟩ e q => by
  unfold sFrz at q
  split at q
  · rename_i t et
    exact h.ev G0 H0 rf _ n σ H D D' ⟨ad, r.frz et⟩ e q
  · exact q.elim, fun E n D D' l q => by
  unfold sFrz at q ⊢
  split at q
  · exact h.mo _ _ _ _ l q
  · exact q.elim⟩
/-- e alone -/
def sDrop (We : WE) : WS := fun E n D => We E n fun _ m => D.nx E m
theorem es_drop (he : ET K p te We) : ES K p Xw (tDrop te) (sDrop We) := ⟨fun G0 H0 rf E n σ H D D' ⟨ad, r⟩ e q => by
  refine he.ev (GG G0 ad E) ad E n σ H _ r.w r.r (he.mo _ _ _ _ (fun t m q v H1 k1 w1 r1 => ?_) q)
  exact e.nx E m σ H1 q ⟨ad, r.kpS k1 w1⟩, fun E n D D' l q => he.mo _ _ _ _ (fun t m q => l.nx _ _ q) q⟩
def sNever : WS := fun _ _ _ => False
theorem es_never : ES K p Xw tNever sNever := ⟨fun _ _ _ _ _ _ _ _ _ _ _ q => q, fun _ _ _ _ _ q => q⟩
/-- a, b = x, y -/
def sPar (i j : Nat) (Wr : WA) : WS := fun E n D => Wr E n fun ts m => match ts with | [x, y] => D.nx ((E.set i (.sh x)).set j (.sh y)) m | _ => False
theorem es_par {i j : Nat} (ha : EA K p tr Wr) : ES K p Xw (tPar i j tr) (sPar i j Wr) := ⟨fun G0 H0 rf E n σ H D D' ⟨ad, r⟩ e q => by
  refine ha.ev (GG G0 ad E) ad E n σ H _ r.w r.r (ha.mo _ _ _ _ (fun ts m q vs H1 k1 w1 rs => ?_) q)
  split at q
  · rename_i x y
    cases rs with
    | cons r1 rs =>
      cases rs with
      | cons r2 rs =>
        cases rs
        have r3 := r.kpS k1 w1
        exact ⟨_, _, rfl, e.nx _ m _ H1 q ⟨ad, r3.shrink (fun _ _ e => ow_set (ow_set e)) ((r3.r.set r1).set r2)⟩⟩
  · exact q.elim, fun E n D D' l q => ha.mo _ _ _ _ (fun ts m q => by
  split at q
  · exact l.nx _ _ q
  · exact q.elim) q⟩
/-- a, b = {}, {} -/
def sParDD (i j : Nat) : WS := fun E n D => D.nx ((E.set i (.ow (.dic []))).set j (.ow (.dic []))) n
theorem es_parDD {i j : Nat} : ES K p Xw (tPar i j (tCons tDNewK (tCons tDNewK tNil))) (sParDD i j) := ⟨fun G0 H0 rf E n σ H D D' ⟨ad, r⟩ e q => by
  intro a ha b hb
  have r1 := r.own (i := i) (t := .dic []) (Kp.new ha) (r.w.new (o := .dK []) ha) ha (.dic upd_same .nil) (fun _ _ z => nomatch z)
  have r2 := r1.own (i := j) (t := .dic []) (Kp.new hb) (r1.w.new (o := .dK []) hb) hb (.dic upd_same .nil) (fun _ _ z => nomatch z)
  exact ⟨_, _, rfl, e.nx _ n _ _ q ⟨_, r2⟩⟩, fun E n D D' l q => l.nx _ _ q⟩
def wDNew : WE := fun _ n k => k (.dic []) n
theorem en_dnew : EN K p tDNewK wDNew := ⟨fun G ad E n σ H Q w rl q => fun a ha => q a _ (Kp.new ha) (w.new ha) ha (.dic upd_same .nil), fun E n k k' hk q => hk _ _ q⟩
/-- for -/
def forL (Wg : WG) (Wb : WS) : List T → En → Nat → EndT → Prop
  | [], E, m, D => D.nx E m
  | x :: xs, E, m, D => Wg x E fun E1 => Wb E1 m { D with nx := fun E2 m2 => forL Wg Wb xs E2 m2 D, ct := fun E2 m2 => forL Wg Wb xs E2 m2 D, bk := D.nx }
def sFor (Wi : WA) (Wg : WG) (Wb : WS) : WS := fun E n D => Wi E n fun ts m => forL Wg Wb ts E m D
theorem forL_mono {Wg : WG} {Wb : WS} (hg : ∀ t E k k', (∀ E', k E' → k' E') → Wg t E k → Wg t E k') (hb : ∀ E n D D', D.le D' → Wb E n D → Wb E n D') {D D' : EndT} (l : D.le D') :
    ∀ (xs : List T) (E : En) (m : Nat), forL Wg Wb xs E m D → forL Wg Wb xs E m D'
  | [], E, m, q => l.nx _ _ q
  | x :: xs, E, m, q => hg _ _ _ _ (fun E1 q => hb E1 m { D with nx := fun E2 m2 => forL Wg Wb xs E2 m2 D, ct := fun E2 m2 => forL Wg Wb xs E2 m2 D, bk := D.nx } { D' with nx := fun E2 m2 => forL Wg Wb xs E2 m2 D', ct := fun E2 m2 => forL Wg Wb xs E2 m2 D', bk := D'.nx } ⟨fun E2 m2 q => forL_mono hg hb l xs E2 m2 q, l.rt, l.nx, fun E2 m2 q => forL_mono hg hb l xs E2 m2 q, l.ex⟩ q) q
theorem es_for (hi : EIS K p wi Wi) (hg : EG K p g ix Wg) (hb : ES K p Xw tb' W1) : ES K p Xw (tFor wi g tb') (sFor Wi Wg W1) := ⟨fun G0 H0 rf E n σ H D D' ⟨ad, r⟩ e q => by
  refine hi.ev (GG G0 ad E) ad E n σ H _ r.w r.r (hi.mo _ _ _ _ (fun ts m q J H1 k1 w1 wt => ?_) q)
  have r1 := r.kpS k1 w1
  have add : ∀ {E2 : En} {m2 : Nat} {σ2 : L2.St} {H2 : Hp}, RelS K p G0 H0 ((GG G0 ad E, H1, none) :: rf) E2 σ2 m2 H2 → RelS K p G0 H0 rf E2 σ2 m2 H2 := fun ⟨ad', r'⟩ =>
    ⟨ad', r'.kp, r'.w, r'.r, r'.g0, r'.s0, r'.inj, r'.fr, fun q hq => r'.rf q (List.mem_cons_of_mem _ hq)⟩
  have r2 : RelS K p G0 H0 ((GG G0 ad E, H1, none) :: rf) E σ m H1 := ⟨ad, r1.kp, r1.w, r1.r, r1.g0, r1.s0, r1.inj, r1.fr, fun q hq => by
    rcases List.mem_cons.mp hq with rfl | hq
    · exact ⟨fun _ _ _ h => h, fun i t e => .inl (.inr ⟨i, t, e, rfl⟩), fun a z => .inl z, fun x hx => nomatch hx⟩
    · exact r1.rf q hq⟩
  refine for_it wt.w (fun i σ2 H2 => ∃ E2 m2, RelS K p G0 H0 ((GG G0 ad E, H1, none) :: rf) E2 σ2 m2 H2 ∧ forL Wg W1 (ts.drop i) E2 m2 D') ⟨E, m, r2, q⟩ (fun i σ2 H2 _ ⟨E2, m2, ⟨ad2, rr⟩, _⟩ => (rr.rf _ List.mem_cons_self).1) ?_ ?_
  · rintro i x σ2 H2 H3 hi2 ⟨E2, m2, ⟨ad2, rr⟩, q2⟩ ⟨k3, hy⟩
    obtain ⟨w3, hy⟩ := hy _ m2 rr.w
    obtain ⟨_, b1, c1, _⟩ := rr.rf _ List.mem_cons_self
    obtain ⟨t, et, rt⟩ := hy fun a z => z.elim (fun z => .inl (.inl z)) fun ⟨j, u, e2, h⟩ => h ▸ b1 j u e2
    have ed : ts.drop i = t :: ts.drop (i + 1) := by
      rw [List.drop_eq_getElem_cons hi2]
      congr 1
      exact Option.some.inj ((List.getElem?_eq_getElem hi2).symm.trans et)
    rw [ed] at q2
    have r3 := rr.kpS k3 w3
    refine hg.ev (GG G0 ad2 E2) ad2 E2 σ2 H3 t x _ r3.r rt (hg.mo _ _ _ _ (fun E' ⟨q, ho⟩ σ' re l f => ?_) (hg.ow _ _ _ q2))
    refine hb.ev G0 H0 ((GG G0 ad E, H1, none) :: rf) E' m2 σ' H3 _ { D' with nx := fun E2 m2 => forL Wg W1 (ts.drop (i + 1)) E2 m2 D', ct := fun E2 m2 => forL Wg W1 (ts.drop (i + 1)) E2 m2 D', bk := D'.nx } ⟨ad2, r3.shrink ho re⟩ ⟨fun E4 m4 σ4 H4 q r4 => ⟨E4, m4, r4, q⟩, e.rt, fun E4 m4 σ4 H4 q r4 => e.nx E4 m4 σ4 H4 q (add r4), fun E4 m4 σ4 H4 q r4 => ⟨E4, m4, r4, q⟩, fun E4 C fs m4 σ4 H4 d q r4 => e.ex E4 C fs m4 σ4 H4 d q (add r4)⟩ q
  · rintro σ2 H2 ⟨E2, m2, r2, q2⟩
    rw [List.drop_length] at q2
    exact e.nx E2 m2 σ2 H2 q2 (add r2), fun E n D D' l q => hi.mo _ _ _ _ (fun ts m q => forL_mono hg.mo hb.mo l ts E m q) q⟩
def sBrk : WS := fun E n D => D.bk E n
def sCnt : WS := fun E n D => D.ct E n
end
/-! ### a def's promise -/
abbrev WF := List T → Nat → KT → Prop
def spT (K : PySem.W.Frag) (W : WF) : Sp := fun vs H Q _ => ∃ (p : Option Addr) (G : Addr → Prop) (ts : List T) (n : Nat), Wld p G n H ∧ Rs K p (hid G H) ts vs ∧ W ts n fun t m => ∀ v H', Kp p H H' → Wld p G m H' → R K p (hid G H') t v → Q v H'
def startE (N : List Str) (ts : List T) : En := ts.map .sh ++ List.replicate (N.length - ts.length) .no
theorem start_rel {K : PySem.W.Frag} {p : Option Addr} {G : Addr → Prop} {n : Nat} {H : Hp} {N : List Str} {ts : List T} {vs : List V} (w : Wld p G n H) (r : Rs K p (hid G H) ts vs) : RelS K p G H [] (startE N ts) (L2.start N vs) n H := by
  have no : ∀ (i : Nat) (t : T), (startE N ts)[i]? ≠ some (.ow t) := fun i t e => by
    unfold startE at e
    by_cases h : i < (ts.map Sl.sh).length
    · rw [List.getElem?_append_left h, List.getElem?_map] at e
      obtain ⟨u, _, eu⟩ := Option.map_eq_some_iff.mp e
      cases eu
    · rw [List.getElem?_append_right (by omega), List.getElem?_replicate] at e
      split at e <;> cases e
  have eg : ∀ a, GG G (fun _ => 0) (startE N ts) a → G a := fun a z => z.elim id fun ⟨i, t, e, _⟩ => absurd e (no i t)
  have sm : Same (hid G H) (hid (GG G (fun _ => 0) (startE N ts)) H) := hid_anti eg
  refine ⟨fun _ => 0, .refl _ _, ⟨fun a z => w.gok a (eg a z), fun a z => ⟨.inl (w.hd a z), (w.src a z).2⟩⟩, ⟨?_, fun i t e => ?_, fun i t e => absurd e (no i t)⟩, w.gok, w.hd, fun i j t u e => absurd e (no i t), fun i t e => absurd e (no i t), fun q hq => by cases hq⟩
  · unfold L2.start startE
    rw [List.length_append, List.length_append, List.length_map, List.length_map, List.length_replicate, List.length_replicate, r.length]
  · unfold startE at e
    by_cases h : i < (ts.map Sl.sh).length
    · rw [List.getElem?_append_left h, List.getElem?_map] at e
      obtain ⟨u, eu, e2⟩ := Option.map_eq_some_iff.mp e
      cases e2
      obtain ⟨v, ev, rv⟩ := r.get eu
      refine ⟨v, ?_, rv.mono sm⟩
      unfold L2.start
      rw [List.getElem?_append_left (by rw [List.length_map, r.length]; simpa using h), List.getElem?_map, ev]
      rfl
    · rw [List.getElem?_append_right (by omega), List.getElem?_replicate] at e
      split at e <;> cases e
section
variable {P : Program} {w : World} {K : PySem.W.Frag} {mg : Str → Option Value} {base : Heap} {x qual : Str} {params : Arguments} {body : List Stmt} {scope : Scope} {dvs : List V} {kws : List (Str × V)} {f : Addr} {fd : FuncData}
/-- THE RULE for a def: its derivation, and what its reading does with trees -/
theorem okT {N ps : List Str} {k : Nat} {W : WF} (F : FunD K x qual params body scope dvs kws f fd) (S : FnScope N ps scope) (len : ∀ ts n k, W ts n k → ts.length = ps.length)
    (hbody : ∀ (cdv : Value) (A : Around) (outer : List Env) (s : Shared) (H : Hp) (E : XK), Room k (A.deeper (envOfC qual scope s.heap.objs.size f cdv)) →
      ∃ t, PSs (cxOf CX0 P w K mg base N qual scope f cdv A outer s H E).nox body t ∧ ∀ p : Option Addr, ∃ (Wb : WS) (Xw : WX), ES K p Xw t Wb ∧ ∀ ts n k, W ts n k → Wb (startE N ts) n { nx := fun _ m => k .non m, rt := k }) : FnOk P w K mg base CX0 (k + 1) f fd ps (spT K W) := by
  refine F.ok S (fun vs H Q E h => ?_) (fun cdv A outer s H vs Q E hr h => ?_)
  · obtain ⟨p, G, ts, n, _, r, h⟩ := h
    rw [r.length]
    exact len ts n _ h
  · obtain ⟨p, G, ts, n, wl, r, h⟩ := h
    obtain ⟨t, hd, he⟩ := hbody cdv A outer s H E hr
    obtain ⟨Wb, Xw, es, hw⟩ := he p
    refine ⟨t, hd.nox, es.ev G H [] _ n _ H _ { nx := fun _ m => ∀ v H', Kp p H H' → Wld p G m H' → R K p (hid G H') .non v → Q v H', rt := fun t m => ∀ v H', Kp p H H' → Wld p G m H' → R K p (hid G H') t v → Q v H' } (start_rel wl r) ⟨fun E' m σ' H' q ⟨ad, rr⟩ => q _ H' rr.kp ⟨fun a z => rr.w.gok a (.inl z), fun a z => ⟨rr.s0 a z, (rr.w.src a z).2⟩⟩ .non, fun t m v H' q k' w' r' => q v H' k' w' r', fun _ _ _ _ q => q.elim, fun _ _ _ _ q => q.elim, fun _ _ _ _ _ _ _ q => q.elim⟩ (hw ts n _ h)⟩
variable {X : Cx} {p : Option Addr} {ta : TA} {Wr : WA}
def wCal (W : WF) (Wr : WA) (dts : List T) : WE := fun E n k => Wr E n fun ts m => W (ts ++ dts) m k
theorem et_cal {W : WF} {dts : List T} {ds : List V} (mw : ∀ ts n k k', (∀ t m, k t m → k' t m) → W ts n k → W ts n k') (hd : ∀ H, Rs K p H dts ds) (ha : EA K p ta Wr) : ET K p (tCall (spT K W) ds L2.E0 ta) (wCal W Wr dts) := ⟨fun G ad E n σ H Q w rl q => by
  refine ha.ev G ad E n σ H _ w rl (ha.mo _ _ _ _ (fun ts m q vs H1 k1 w1 rs => ?_) q)
  exact ⟨p, G, ts ++ dts, m, w1, rs.app (hd _), mw _ _ _ _ (fun t m' q v H2 k2 w2 r2 => q v H2 (k1.trans k2) w2 r2) q⟩, fun E n k k' hk q => ha.mo _ _ _ _ (fun ts m q => mw _ _ _ _ hk q) q⟩
end
end Tr
/-! ## Tr7 -/
set_option Elab.async false
set_option linter.all false
set_option maxRecDepth 100000
set_option maxHeartbeats 4000000
/-! Tr7: built-ins and methods, told of trees; own work. -/
namespace Tr
open PySem PySem.Spec PyProof.Rows L2 _root_.Sl
section
variable {K : PySem.W.Frag} {p : Option Addr} {G : Addr → Prop} {n : Nat} {H : Hp}
/-! ### len, list, tuple, str, int, any, all -/
def rLen (K : PySem.W.Frag) : List V → Hp → VK → Prop := fun xs H Q => ∃ x n, xs = [x] ∧ LenV K x H n ∧ Q (.int n) H
theorem call_lenT {X : Cx} : CallR X (.builtin "len") (rLen X.K) := call_len
def fLen : List T → Option T
  | [.lst xs] => some (.int xs.length)
  | [.tup xs] => some (.int xs.length)
  | [.str s] => if s.length ≤ sizeLine then some (.int s.length) else none
  | _ => none
theorem RXs.one {t : T} {vs : List V} (r : RXs K p G H [t] vs) : ∃ v, vs = [v] ∧ RX K p G H t v := by
  cases r with | cons h r => cases r; exact ⟨_, rfl, h⟩
theorem RXs.two {t u : T} {vs : List V} (r : RXs K p G H [t, u] vs) : ∃ v w, vs = [v, w] ∧ RX K p G H t v ∧ RX K p G H u w := by
  cases r with | cons h r => cases r with | cons g r => cases r; exact ⟨_, _, rfl, h, g⟩
theorem c_len : Cl K p (rLen K) fLen := fun G n H ts z vs Q w r e q => by
  unfold fLen at e
  split at e
  · obtain ⟨v, rfl, rv⟩ := r.one
    cases e
    obtain ⟨a, ws, rfl, h, s⟩ := rv.list
    exact ⟨_, _, rfl, .inl ⟨ws, SqL.of h, rfl⟩, by rw [s.length]; exact q _ H (.refl _ _) w (.int _)⟩
  · obtain ⟨v, rfl, rv⟩ := r.one
    cases e
    obtain ⟨a, ws, rfl, h, s⟩ := rv.tuple
    exact ⟨_, _, rfl, .inr ⟨ws, h, rfl⟩, by rw [s.length]; exact q _ H (.refl _ _) w (.int _)⟩
  · obtain ⟨v, rfl, rv⟩ := r.one
    split at e
    · cases e
      obtain rfl := rv.str
      exact ⟨_, _, rfl, ⟨by assumption, rfl⟩, q _ H (.refl _ _) w (.int _)⟩
    · cases e
  · cases e
def rListC (K : PySem.W.Frag) : List V → Hp → VK → Prop := fun xs H Q => ∃ p ys, xs = [.ref p] ∧ (SqL K H p ys ∨ SqT K H p ys) ∧ ∀ l, H l = none → Q (.ref l) (upd H l (.lst ys))
theorem call_listT {X : Cx} : CallR X (.type "list") (rListC X.K) := call_list_of
def fListC : List T → Option T
  | [.lst xs] => some (.lst xs)
  | [.tup xs] => some (.lst xs)
  | _ => none
theorem c_list : ClN K p (rListC K) fListC := fun G n H ts z vs Q w r e q => by
  unfold fListC at e
  split at e
  · obtain ⟨v, rfl, rv⟩ := r.one
    cases e
    obtain ⟨a, ws, rfl, h, s⟩ := rv.list
    exact ⟨_, ws, rfl, .inl (SqL.of h), fun l hl => q l _ (Kp.new hl) (w.new hl) hl (.lst upd_same (s.newA w hl))⟩
  · obtain ⟨v, rfl, rv⟩ := r.one
    cases e
    obtain ⟨a, ws, rfl, h, s⟩ := rv.tuple
    exact ⟨_, ws, rfl, .inr h, fun l hl => q l _ (Kp.new hl) (w.new hl) hl (.lst upd_same (s.newA w hl))⟩
  · cases e
def rTupC (K : PySem.W.Frag) : List V → Hp → VK → Prop := fun xs H Q => ∃ p ys, xs = [.ref p] ∧ ((SqL K H p ys ∧ ∀ l, H l = none → Q (.ref l) (upd H l (.tup ys))) ∨ (SqT K H p ys ∧ Q (.ref p) H))
theorem call_tupT {X : Cx} : CallR X (.type "tuple") (rTupC X.K) := call_tuple_of
def fTupC : List T → Option T
  | [.lst xs] => some (.tup xs)
  | [.tup xs] => some (.tup xs)
  | _ => none
theorem c_tup : Cl K p (rTupC K) fTupC := fun G n H ts z vs Q w r e q => by
  unfold fTupC at e
  split at e
  · obtain ⟨v, rfl, rv⟩ := r.one
    cases e
    obtain ⟨a, ws, rfl, h, s⟩ := rv.list
    exact ⟨_, ws, rfl, .inl ⟨SqL.of h, fun l hl => q _ _ (Kp.new hl) (w.new hl) (R.newT w hl s)⟩⟩
  · obtain ⟨v, rfl, rv⟩ := r.one
    cases e
    obtain ⟨a, ws, ev, h, s⟩ := rv.tuple
    subst ev
    refine ⟨_, ws, rfl, .inr ⟨h, q _ H (.refl _ _) w ?_⟩⟩
    rcases rv with r | ⟨b, eb, nb, c⟩
    · exact r
    · cases c
  · cases e
def rStrC : List V → Hp → VK → Prop := fun xs H Q => ∃ i : Int, xs = [.int i] ∧ i.natAbs.log2 < 1920 ∧ Q (.str (toString i)) H
theorem call_strT {X : Cx} : CallR X (.type "str") rStrC := call_str_int
def fStrC : List T → Option T
  | [.int i] => if i.natAbs.log2 < 1920 then some (.str (toString i)) else none
  | _ => none
theorem c_str : Cl K p rStrC fStrC := fun G n H ts z vs Q w r e q => by
  unfold fStrC at e
  split at e
  · obtain ⟨v, rfl, rv⟩ := r.one
    obtain rfl := rv.int
    split at e
    · cases e
      exact ⟨_, rfl, by assumption, q _ H (.refl _ _) w (.str _)⟩
    · cases e
  · cases e
def rIntC : List V → Hp → VK → Prop := fun xs H Q => (∃ i, xs = [.int i] ∧ Q (.int i) H) ∨ ∃ k, xs = [.bl k] ∧ Q (.int (if k then 1 else 0)) H
theorem call_intT {X : Cx} : CallR X (.type "int") rIntC := call_int1
def fIntC : List T → Option T
  | [.int i] => some (.int i)
  | [.bl k] => some (.int (if k then 1 else 0))
  | _ => none
theorem c_int : Cl K p rIntC fIntC := fun G n H ts z vs Q w r e q => by
  unfold fIntC at e
  split at e
  · obtain ⟨v, rfl, rv⟩ := r.one
    obtain rfl := rv.int
    cases e
    exact .inl ⟨_, rfl, q _ H (.refl _ _) w (.int _)⟩
  · obtain ⟨v, rfl, rv⟩ := r.one
    obtain rfl := rv.bl
    cases e
    exact .inr ⟨_, rfl, q _ H (.refl _ _) w (.int _)⟩
  · cases e
/-- a list of bools -/
def bools : List T → Option (List Bool)
  | [] => some []
  | .bl b :: r => (bools r).map (b :: ·)
  | _ => none
theorem bools_eq : ∀ {ts : List T} {bs : List Bool}, bools ts = some bs → ts = bs.map T.bl
  | [], bs, e => by cases e; rfl
  | t :: r, bs, e => by
    cases t <;> try cases e
    rename_i b
    have e' : (bools r).map (b :: ·) = some bs := e
    obtain ⟨cs, e1, e2⟩ := Option.map_eq_some_iff.mp e'
    subst e2
    rw [bools_eq e1]
    rfl
theorem bools_map : ∀ bs : List Bool, bools (bs.map T.bl) = some bs
  | [] => rfl
  | b :: r => by
    show (bools (r.map T.bl)).map (b :: ·) = _
    rw [bools_map r]
    rfl
theorem Rs.ofBls {bs : List Bool} {vs : List V} (h : Rs K p H (bs.map T.bl) vs) : vs = bs.map V.bl := by
  induction bs generalizing vs with
  | nil => cases h; rfl
  | cons x r ih => cases h with | cons h1 h2 => cases h1; rw [ih h2]; rfl
def fAll : List T → Option T | [.lst xs] => (bools xs).map fun bs => .bl (bs.all id) | _ => none
def fAny : List T → Option T | [.lst xs] => (bools xs).map fun bs => .bl (bs.any id) | _ => none
theorem c_all : Cl K p (rAll K) fAll := fun G n H ts z vs Q w r e q => by
  unfold fAll at e
  split at e
  · obtain ⟨v, rfl, rv⟩ := r.one
    obtain ⟨bs, e1, e2⟩ := Option.map_eq_some_iff.mp e
    subst e2
    obtain ⟨a, ws, rfl, h, s⟩ := rv.list
    rw [bools_eq e1] at s
    obtain rfl := s.ofBls
    exact ⟨a, bs, rfl, SqL.of h, q _ H (.refl _ _) w (.bl _)⟩
  · cases e
theorem c_any : Cl K p (rAny K) fAny := fun G n H ts z vs Q w r e q => by
  unfold fAny at e
  split at e
  · obtain ⟨v, rfl, rv⟩ := r.one
    obtain ⟨bs, e1, e2⟩ := Option.map_eq_some_iff.mp e
    subst e2
    obtain ⟨a, ws, rfl, h, s⟩ := rv.list
    rw [bools_eq e1] at s
    obtain rfl := s.ofBls
    exact ⟨a, bs, rfl, SqL.of h, q _ H (.refl _ _) w (.bl _)⟩
  · cases e
/-! ### texts -/
def txts : List T → Option (List Str)
  | [] => some []
  | .str s :: r => (txts r).map (s :: ·)
  | _ => none
theorem txts_eq : ∀ {ts : List T} {bs : List Str}, txts ts = some bs → ts = bs.map T.str
  | [], bs, e => by cases e; rfl
  | t :: r, bs, e => by
    cases t <;> try cases e
    rename_i b
    have e' : (txts r).map (b :: ·) = some bs := e
    obtain ⟨cs, e1, e2⟩ := Option.map_eq_some_iff.mp e'
    subst e2
    rw [txts_eq e1]
    rfl
theorem txts_map : ∀ bs : List Str, txts (bs.map T.str) = some bs
  | [] => rfl
  | b :: r => by
    show (txts (r.map T.str)).map (b :: ·) = _
    rw [txts_map r]
    rfl
def rJoinT (K : PySem.W.Frag) : V → List V → Hp → VK → Prop := fun x xs H Q => ∃ a p, ∃ ys : List Str, x = .str a ∧ xs = [.ref p] ∧ (SqL K H p (ys.map V.str) ∨ SqT K H p (ys.map V.str)) ∧ (ys.map (·.length)).sum + ys.length * a.length ≤ 16777216 ∧ Q (.str (Txt.join a ys)) H
def fJoin (a : Str) : T → Option T
  | .lst ts => (txts ts).bind fun ys => if (ys.map (·.length)).sum + ys.length * a.length ≤ 16777216 then some (.str (Txt.join a ys)) else none
  | .tup ts => (txts ts).bind fun ys => if (ys.map (·.length)).sum + ys.length * a.length ≤ 16777216 then some (.str (Txt.join a ys)) else none
  | _ => none
theorem m_join : Mt K p (rJoinT K) fJoin := fun G n H x y z v Q w r e q => by
  cases y <;> try cases e
  case lst ts =>
    have e' : ((txts ts).bind fun ys => if (ys.map (·.length)).sum + ys.length * x.length ≤ 16777216 then some (T.str (Txt.join x ys)) else none) = some z := e
    obtain ⟨ys, e1, e2⟩ := Option.bind_eq_some_iff.mp e'
    split at e2
    · cases e2
      obtain ⟨a, ws, rfl, h, s⟩ := r.list
      rw [txts_eq e1] at s
      obtain rfl := s.ofStrs
      exact ⟨x, a, ys, rfl, rfl, .inl (SqL.of h), by assumption, q _ H (.refl _ _) w (.str _)⟩
    · cases e2
  case tup ts =>
    have e' : ((txts ts).bind fun ys => if (ys.map (·.length)).sum + ys.length * x.length ≤ 16777216 then some (T.str (Txt.join x ys)) else none) = some z := e
    obtain ⟨ys, e1, e2⟩ := Option.bind_eq_some_iff.mp e'
    split at e2
    · cases e2
      obtain ⟨a, ws, rfl, h, s⟩ := r.tuple
      rw [txts_eq e1] at s
      obtain rfl := s.ofStrs
      exact ⟨x, a, ys, rfl, rfl, .inr h, by assumption, q _ H (.refl _ _) w (.str _)⟩
    · cases e2
def rSplitT : V → List V → Hp → VK → Prop := fun x xs H Q => ∃ a b, x = .str a ∧ xs = [.str b] ∧ (b.length == 0) = false ∧ a.length + 2 ≤ sizeLine ∧ rNewStrs (Txt.split a b) H Q
def fSplit (a : Str) : T → Option T | .str b => if (b.length == 0) = false ∧ a.length + 2 ≤ sizeLine then some (.lst ((Txt.split a b).map .str)) else none | _ => none
theorem m_split : MtN K p rSplitT fSplit := fun G n H x y z v Q w r e q => by
  cases y <;> try cases e
  rename_i b
  have e' : (if (b.length == 0) = false ∧ x.length + 2 ≤ sizeLine then some (T.lst ((Txt.split x b).map .str)) else none) = some z := e
  split at e'
  · rename_i hc
    cases e'
    obtain rfl := r.str
    exact ⟨x, b, rfl, rfl, hc.1, hc.2, fun a ha => q a _ (Kp.new ha) (w.new ha) ha (.lst upd_same (Rs.strs _))⟩
  · cases e'
def rPartT : V → List V → Hp → VK → Prop := fun x xs H Q => ∃ a b, x = .str a ∧ xs = [.str b] ∧ (b.length == 0) = false ∧ a.length ≤ sizeLine ∧
      ∀ p, H p = none → Q (.ref p) (upd H p (.tup [.str (Txt.partition a b).1, .str (Txt.partition a b).2.1, .str (Txt.partition a b).2.2]))
def fPart (a : Str) : T → Option T | .str b => if (b.length == 0) = false ∧ a.length ≤ sizeLine then some (.tup [.str (Txt.partition a b).1, .str (Txt.partition a b).2.1, .str (Txt.partition a b).2.2]) else none | _ => none
theorem m_part : Mt K p rPartT fPart := fun G n H x y z v Q w r e q => by
  cases y <;> try cases e
  rename_i b
  have e' : (if (b.length == 0) = false ∧ x.length ≤ sizeLine then some (T.tup [.str (Txt.partition x b).1, .str (Txt.partition x b).2.1, .str (Txt.partition x b).2.2]) else none) = some z := e
  split at e'
  · rename_i hc
    cases e'
    obtain rfl := r.str
    exact ⟨x, b, rfl, rfl, hc.1, hc.2, fun a ha => q _ _ (Kp.new ha) (w.new ha) (R.newT w ha (.cons (.str _) (.cons (.str _) (.cons (.str _) .nil))))⟩
  · cases e'
def rStartsT : V → List V → Hp → VK → Prop := fun x xs H Q => ∃ a b, x = .str a ∧ xs = [.str b] ∧ Q (.bl (Txt.startswith a b)) H
theorem mt_startsT {X : Cx} : MtR X "str.startswith" rStartsT := mt_startswith
def fStarts (a : Str) : T → Option T | .str b => some (.bl (Txt.startswith a b)) | _ => none
theorem m_starts : Mt K p rStartsT fStarts := fun G n H x y z v Q w r e q => by
  cases y <;> try cases e
  obtain rfl := r.str
  exact ⟨_, _, rfl, rfl, q _ H (.refl _ _) w (.bl _)⟩
def fRep : T → T → Option T | .lst xs, .int k => if -(2 ^ 63) ≤ k ∧ k < 2 ^ 63 ∧ xs.length * k.toNat ≤ sizeLine then some (.lst (List.replicate k.toNat xs).flatten) else none | _, _ => none
def isNon : T → Bool | .non => true | _ => false
def rIsNT : R2 := fun x y H Q => y = .non ∧ Q (.bl (decide (x = .non))) H
def rNotNT : R2 := fun x y H Q => y = .non ∧ Q (.bl (!decide (x = .non))) H
theorem op_isNT {X : Cx} : OpR X (compareOp .Is) rIsNT := op_isN
theorem op_notNT {X : Cx} : OpR X (compareOp .IsNot) rNotNT := op_notN
theorem isNon_iff {t : T} {v : V} (r : RX K p G H t v) : decide (v = .non) = isNon t := by
  rcases r with r | ⟨a, e, _, c⟩
  · cases r <;> rfl
  · subst e
    cases c <;> rfl
def fIsN (x y : T) : Option T := if isNon y then some (.bl (isNon x)) else none
def fNotN (x y : T) : Option T := if isNon y then some (.bl (!isNon x)) else none
theorem o_isN : Op2 K p rIsNT fIsN := fun G n H x y z v w Q wd r1 r2 e q => by
  unfold fIsN at e
  split at e
  · rename_i h
    cases e
    refine ⟨?_, ?_⟩
    · cases y <;> try cases h
      exact r2.non
    · rw [isNon_iff r1]
      exact q _ H (.refl _ _) wd (.bl _)
  · cases e
theorem o_notN : Op2 K p rNotNT fNotN := fun G n H x y z v w Q wd r1 r2 e q => by
  unfold fNotN at e
  split at e
  · rename_i h
    cases e
    refine ⟨?_, ?_⟩
    · cases y <;> try cases h
      exact r2.non
    · rw [isNon_iff r1]
      exact q _ H (.refl _ _) wd (.bl _)
  · cases e
end
section
variable {K : PySem.W.Frag} {p : Option Addr} {te ta tb tc : TE} {We Wa Wb Wc : WE}
/-! ### truth, chains -/
def truT : T → Option Bool
  | .non => some false
  | .bl b => some b
  | .int i => some (i != 0)
  | .str y => if y.length ≤ sizeLine then some ((y.length : Int) != 0) else none
  | .lst xs => some (!xs.isEmpty)
  | .tup xs => some (!xs.isEmpty)
  | .dic xs => some (!xs.isEmpty)
  | _ => none
theorem isEmpty_len {α β : Type} {xs : List α} {ys : List β} (h : xs.length = ys.length) : xs.isEmpty = ys.isEmpty := by
  cases xs <;> cases ys <;> first | rfl | cases h
theorem tru_of {G : Addr → Prop} {H : Hp} {t : T} {v : V} {b : Bool} (r : RX K p G H t v) (e : truT t = some b) : TruV K v H b := by
  cases t <;> try cases e
  · obtain rfl := r.non; rfl
  · obtain rfl := r.bl; rfl
  · obtain rfl := r.int; rfl
  · rename_i y
    obtain rfl := r.str
    have e' : (if y.length ≤ sizeLine then some ((y.length : Int) != 0) else none) = some b := e
    split at e'
    · cases e'; exact ⟨by assumption, rfl⟩
    · cases e'
  · obtain ⟨a, vs, rfl, h, s⟩ := r.list
    exact .inl ⟨vs, SqL.of h, by rw [isEmpty_len s.length]⟩
  · obtain ⟨a, vs, rfl, h, s⟩ := r.tuple
    exact .inr (.inl ⟨vs, h, by rw [isEmpty_len s.length]⟩)
  · obtain ⟨a, vs, rfl, h, s⟩ := r.dict
    exact .inr (.inr ⟨vs, h, by rw [isEmpty_len s.length]⟩)
def bTru (We : WE) : WB := fun E n k => We E n fun t m => opt (truT t) fun b => k b m
theorem eb_tru (h : EX K p te We) : EB K p (fun σ H Q => te σ H fun x H' => ∃ k, TruV K x H' k ∧ Q k H') (bTru We) := ⟨fun G ad E n σ H Q w rl q => by
  refine h.ev G ad E n σ H _ w rl (h.mo _ _ _ _ (fun t m q v H1 k1 w1 r1 => ?_) q)
  obtain ⟨b, e, q⟩ := opt_some q
  exact ⟨b, tru_of r1 e, q H1 k1 w1⟩, fun E n k k' hk q => h.mo _ _ _ _ (fun t m q => opt_mono (fun b q => hk _ _ q) q) q⟩
def wChain (f g : T → T → Option T) (Wa Wb Wc : WE) : WE := fun E n k => Wa E n fun x m => Wb E m fun y m' => opt (f x y) fun z => match z with
  | .bl true => Wc E m' fun u m'' => opt (g y u) fun z => k z m''
  | .bl false => k (.bl false) m'
  | _ => False
theorem et_chain {r r' : R2} {f g : T → T → Option T} (o1 : Op2 K p r f) (o2 : Op2 K p r' g) (ha : EX K p ta Wa) (hb : EX K p tb Wb) (hc : EX K p tc Wc) : ET K p (tChain r r' ta tb tc) (wChain f g Wa Wb Wc) := ⟨fun G ad E n σ H Q w rl q => by
  refine ha.ev G ad E n σ H _ w rl (ha.mo _ _ _ _ (fun x m q v H1 k1 w1 r1 => ?_) q)
  refine hb.ev G ad E m σ H1 _ w1 (rl.kp w.hd k1) (hb.mo _ _ _ _ (fun y m' q u H2 k2 w2 r2 => ?_) q)
  obtain ⟨z, e, q⟩ := opt_some q
  refine o1 G m' H2 x y z v u _ w2 (r1.kp w.hd k2) r2 e fun u' H3 k3 w3 r3 => ?_
  have k13 := k1.trans (k2.trans k3)
  cases z <;> try cases q
  rename_i b
  refine ⟨b, r3.toBl, ?_⟩
  cases b with
  | false => exact q _ H3 k13 w3 (.bl _)
  | true =>
    refine hc.ev G ad E m' σ H3 _ w3 (rl.kp w.hd k13) (hc.mo _ _ _ _ (fun s m'' q v4 H4 k4 w4 r4 => ?_) q)
    obtain ⟨z, e, q⟩ := opt_some q
    exact o2 G m'' H4 y s z u v4 Q w4 (r2.kp w.hd (k3.trans k4)) r4 e fun u5 H5 k5 w5 r5 => q u5 H5 (k13.trans (k4.trans k5)) w5 r5, fun E n k k' hk q => ha.mo _ _ _ _ (fun x m q => hb.mo _ _ _ _ (fun y m' q => opt_mono (fun z q => by
  cases z <;> try cases q
  rename_i b
  cases b with
  | false => exact hk _ _ q
  | true => exact hc.mo _ _ _ _ (fun s m'' q => opt_mono (fun z q => hk _ _ q) q) q) q) q) q⟩
/-! ### sorted of texts; of a set of texts -/
def wSort (We : WE) : WE := fun E n k => We E n fun t m => match t with
  | .lst ts => opt (txts ts) fun xs => if xs.length < 64 then ∀ ys : List Str, ys.Perm xs → sortedS ys = true → k (.lst (ys.map .str)) m else False
  | _ => False
theorem en_sort (h : EX K p te We) : EN K p (tCB (rSortedS K) (tCons te tNil)) (wSort We) := ⟨fun G ad E n σ H Q w rl q => by
  refine h.ev G ad E n σ H _ w rl (h.mo _ _ _ _ (fun t m q v H1 k1 w1 r1 => ?_) q)
  cases t <;> try cases q
  obtain ⟨xs, e, q⟩ := opt_some q
  obtain ⟨hz, q⟩ := ite_get q
  obtain ⟨a, vs, rfl, ha, s⟩ := r1.list
  rw [txts_eq e] at s
  obtain rfl := s.ofStrs
  exact ⟨a, xs, rfl, SqL.of ha, hz, fun ys l pm so hl => q ys pm so l _ (k1.trans (Kp.new hl)) (w1.new hl) (k1.free w w1 hl) (.lst upd_same (Rs.strs _))⟩, fun E n k k' hk q => h.mo _ _ _ _ (fun t m q => by
  cases t <;> try cases q
  exact opt_mono (fun xs q => ite_mono (fun q ys a b => hk _ _ (q ys a b)) q) q) q⟩
def wSortSet (We : WE) : WE := fun E n k => We E n fun t m => match t with
  | .lst ts => opt (txts ts) fun xs => if xs.length + 1 < scanBound ∧ xs.length < 64 then ∀ ys : List Str, ys.Perm (dd xs xs.length) → sortedS ys = true → k (.lst (ys.map .str)) m else False
  | _ => False
theorem en_sortSet {P : Program} {w0 : World} (h : EX K p te We) : EN K p (tCB (rSortTx P w0) (tCons (tCB (rSetTx K P w0) (tCons te tNil)) tNil)) (wSortSet We) := ⟨fun G ad E n σ H Q w rl q => by
  refine h.ev G ad E n σ H _ w rl (h.mo _ _ _ _ (fun t m q v H1 k1 w1 r1 => ?_) q)
  cases t <;> try cases q
  obtain ⟨xs, e, q⟩ := opt_some q
  obtain ⟨⟨hz, hz2⟩, q⟩ := ite_get q
  obtain ⟨a, vs, rfl, ha, s⟩ := r1.list
  rw [txts_eq e] at s
  obtain rfl := s.ofStrs
  refine ⟨a, xs, rfl, SqL.of ha, hz, fun b hb => ⟨b, _, rfl, upd_same, ?_, fun ys l pm so hl => ?_⟩⟩
  · exact Nat.lt_of_le_of_lt (dd_len xs _) hz2
  · have hl1 : H1 l = none := by
      cases e1 : H1 l with
      | none => rfl
      | some o =>
        rw [upd_ne (ne_of_none e1 hb), e1] at hl
        cases hl
    exact q ys pm so l _ (k1.trans ((Kp.new hb).trans (Kp.new hl))) ((w1.new hb).new hl) (k1.free w w1 hl1) (.lst upd_same (Rs.strs _)), fun E n k k' hk q => h.mo _ _ _ _ (fun t m q => by
  cases t <;> try cases q
  exact opt_mono (fun xs q => ite_mono (fun q ys a b => hk _ _ (q ys a b)) q) q) q⟩
/-- x or y, of a text and a text (values by truth) -/
def wOrT (Wa Wb : WE) : WE := fun E n k => Wa E n fun x m => opt (truT x) fun b => if b = true then k x m else Wb E m k
theorem et_orT (ha : ET K p ta Wa) (hb : ET K p tb Wb) : ET K p (tOrT K ta tb) (wOrT Wa Wb) := ⟨fun G ad E n σ H Q w rl q => by
  refine ha.ev G ad E n σ H _ w rl (ha.mo _ _ _ _ (fun x m q v H1 k1 w1 r1 => ?_) q)
  obtain ⟨b, e, q⟩ := opt_some q
  refine ⟨b, tru_of (G := G) (.inl r1) e, ?_⟩
  cases b with
  | true => exact q v H1 k1 w1 r1
  | false => exact hb.ev G ad E m σ H1 _ w1 (rl.kp w.hd k1) (hb.mo _ _ _ _ (fun t m' q v H2 k2 w2 r2 => q v H2 (k1.trans k2) w2 r2) q), fun E n k k' hk q => ha.mo _ _ _ _ (fun x m q => opt_mono (fun b q => by
  cases b with
  | true => exact hk _ _ q
  | false => exact hb.mo _ _ _ _ hk q) q) q⟩
end
end Tr
/-! ## Tr8 -/
set_option Elab.async false
set_option linter.all false
set_option maxRecDepth 100000
set_option maxHeartbeats 4000000
/-! Tr8: more; draws; own work. -/
namespace Tr
open PySem PySem.Spec PyProof.Rows L2 _root_.Sl
abbrev MonoF (W : WF) : Prop := ∀ (ts : List T) (n : Nat) (k k' : KT), (∀ t m, k t m → k' t m) → W ts n k → W ts n k'
theorem monoF {K : PySem.W.Frag} {p : Option Addr} {t : TS} {wb : WS} {N : List Str} {np : Nat} (h : ES K p (fun _ _ _ _ => False) t wb) : MonoF fun ts n k => ts.length = np ∧ wb (startE N ts) n { nx := fun _ m => k .non m, rt := k } :=
  fun ts n k k' hk q => ⟨q.1, h.mo _ _ { nx := fun _ m => k .non m, rt := k } { nx := fun _ m => k' .non m, rt := k' } ⟨fun _ m q => hk _ _ q, fun t m q => hk _ _ q, fun _ _ q => q, fun _ _ q => q, fun _ _ _ _ q => q⟩ q.2⟩
section
variable {K : PySem.W.Frag} {p : Option Addr} {te ta : TE} {We : WE} {tr : TA} {Wr : WA}
def wNeg (We : WE) : WE := fun E n k => We E n fun t m => match t with | .int i => k (.int (-i)) m | _ => False
theorem et_neg (h : ET K p te We) : ET K p (tUn (rU fun i => .int (-i)) te) (wNeg We) := ⟨fun G ad E n σ H Q w rl q => by
  refine h.ev G ad E n σ H _ w rl (h.mo _ _ _ _ (fun t m q v H1 k1 w1 r1 => ?_) q)
  cases t <;> try cases q
  exact ⟨_, r1.toInt, q _ H1 k1 w1 (.int _)⟩, fun E n k k' hk q => h.mo _ _ _ _ (fun t m q => by cases t <;> first | exact hk _ _ q | cases q) q⟩
theorem Rs.rep {H : Hp} {ts : List T} {vs : List V} (r : Rs K p H ts vs) : ∀ k : Nat, Rs K p H (List.replicate k ts).flatten (List.replicate k vs).flatten
  | 0 => .nil
  | k + 1 => by
    rw [List.replicate_succ, List.replicate_succ, List.flatten_cons, List.flatten_cons]
    exact r.app (Rs.rep r k)
theorem o_rep : Op2N K p rRep fRep := fun G n H x y z v w Q wd r1 r2 e q => by
  cases x <;> cases y <;> try cases e
  rename_i xs k
  have e' : (if -(2 ^ 63) ≤ k ∧ k < 2 ^ 63 ∧ xs.length * k.toNat ≤ sizeLine then some (T.lst (List.replicate k.toNat xs).flatten) else none) = some z := e
  split at e'
  · rename_i hc
    cases e'
    obtain ⟨a, vs, rfl, h, s⟩ := r1.list
    exact ⟨a, k, vs, rfl, r2.int, h, hc.1, hc.2.1, by rw [s.length]; exact hc.2.2, fun c hcn => q c _ (Kp.new hcn) (wd.new hcn) hcn (.lst upd_same ((s.rep _).newA wd hcn))⟩
  · cases e'
def iRngT2 (Wr : WA) : WA := fun E n k => Wr E n fun ts m => match ts with | [.int i, .int j] => if -(2 ^ 62) ≤ i ∧ i < 2 ^ 62 ∧ -(2 ^ 62) ≤ j ∧ j < 2 ^ 62 then k ((List.range (j - i).toNat).map fun l => .int (i + (l : Nat))) m else False | _ => False
theorem ei_range2 (h : EA K p tr Wr) : EI K p (iRng2 tr) (iRngT2 Wr) := ⟨fun G ad E n σ H R w rl q => by
  refine h.ev G ad E n σ H _ w rl (h.mo _ _ _ _ (fun ts m q vs H1 k1 w1 r1 => ?_) q)
  split at q
  · rename_i i j
    obtain ⟨hc, q⟩ := ite_get q
    cases r1 with
    | cons r1 r2 =>
      cases r2 with
      | cons r2 r3 =>
        cases r3
        refine ⟨i, j, by rw [r1.toInt, r2.toInt], hc, q _ H1 k1 w1 ⟨?_⟩⟩
        have el : ((List.range (j - i).toNat).map fun l => T.int (i + (l : Nat))).length = (j - i).toNat := by simp
        rw [el]
        refine walk_range.mono (fun _ _ => trivial) fun l H2 x H3 hi k2 ⟨e, hx⟩ => ?_
        subst e hx
        exact ⟨.refl _ _, fun G' m' w' => ⟨w', fun hg => ⟨.int (i + (l : Nat)), by simp [hi], .int _⟩⟩⟩
  · exact q.elim, fun E n k k' hk q => h.mo _ _ _ _ (fun ts m q => by
  split at q
  · exact ite_mono (hk _ _) q
  · exact q.elim) q⟩
theorem en_sortSetM (h : EX K p te We) : EN K p (fun _ _ _ => True) (wSortSet We) := ⟨fun _ _ _ _ _ _ _ _ _ _ => trivial, fun E n k k' hk q => h.mo _ _ _ _ (fun t m q => by
  cases t <;> try cases q
  exact opt_mono (fun xs q => ite_mono (fun q ys a b => hk _ _ (q ys a b)) q) q) q⟩
/-! ### draws -/
def drawW : WF := fun ts n k => ∃ m : Int, ts = [.src, .int m] ∧ n ≤ 100000 ∧ 0 < m ∧ m < 2 ^ 200 ∧ ∀ j : Int, 0 ≤ j → j < m → k (.int j) (n + 1)
theorem mo_drawW : MonoF drawW := fun ts n k k' hk ⟨m, e, h1, h2, h3, q⟩ => ⟨m, e, h1, h2, h3, fun j a b => hk _ _ (q j a b)⟩
theorem keep_kp {a : Addr} {H H' : Hp} (h : Keep a H H') : Kp (some a) H H' := fun b o n e => h b o (fun z => n (by rw [z])) e
theorem Wld.of_keep {a : Addr} {G : Addr → Prop} {n m : Nat} {H H' : Hp} (w : Wld (some a) G n H) (k : Keep a H H') (s : SrcAt H' a m) : Wld (some a) G m H' := w.kp (keep_kp k) fun b e => by cases e; exact s
theorem draw_imp (vs : List V) (H : Hp) (Q : VK) (E : XK) (h : spT K drawW vs H Q E) : sp_draw vs H Q E := by
  obtain ⟨p, G, ts, n, w, r, m, rfl, h1, h2, h3, q⟩ := h
  cases r with
  | cons r1 r =>
    cases r with
    | cons r2 r =>
      cases r
      cases r1 with
      | src e =>
        subst e
        refine ⟨_, m, n, by rw [r2.toInt], (w.src _ rfl).2, h1, h2, h3, fun j H' a b s k => ?_⟩
        exact q j a b _ H' (keep_kp k) (w.of_keep k s) (.int _)
theorem Cal.imp {P : Program} {w : World} {mg : Str → Option Value} {base : Heap} {k : Nat} {x : Str} {dvs : List V} {sp sp' : Sp} (c : Cal P w K mg base k x dvs sp) (h : ∀ vs H Q E, sp' vs H Q E → sp vs H Q E) : Cal P w K mg base k x dvs sp' := by
  obtain ⟨f, fd, ps, ds, a, b, F, d, e⟩ := c.ex
  exact ⟨f, fd, ps, ds, a, b, F.imp h, d, e⟩
theorem Cal.monoW {P : Program} {w : World} {mg : Str → Option Value} {base : Heap} {k : Nat} {x : Str} {dvs : List V} {W W' : WF} (c : Cal P w K mg base k x dvs (spT K W)) (h : ∀ ts n k, W' ts n k → W ts n k) : Cal P w K mg base k x dvs (spT K W') :=
  Cal.imp c fun vs H Q E ⟨p, G, ts, n, w, r, q⟩ => ⟨p, G, ts, n, w, r, h _ _ _ q⟩
end
end Tr
/-! ## SlSet3 -/
set_option Elab.async false
set_option linter.all false
set_option maxRecDepth 100000
set_option maxHeartbeats 4000000
/-! a set of texts: of a tuple; its len; x in it -/
namespace Sl
open PySem PySem.Spec PyProof.Rows L2
section
variable {P : Program} {w : World} {A : Around} {E : Value → Shared → Prop} {s : Shared}
theorem call_set_txt {l : Addr} {its : Array Value} (xs : List Str) {Q : Value → Shared → Prop} (hh : A.handled = none) (hl : s.heap.IsTuple l its) (hi : StrsAre its.toList xs) (hb : xs.length + 1 < scanBound)
    (h : ∀ (h' : Heap) (tk : Nat) (D : Froz.SD), h'.get? s.heap.objs.size = some (Froz.sObj "set" D) → TxS P w D (dd xs xs.length) → (∀ b o, s.heap.get? b = some o → h'.get? b = some o) → Q (.ref s.heap.objs.size) { s with heap := h', toks := tk }) :
    wpAny (model P w) A (call (.type "set") [.ref l]) Q E s := by
  have en : its.size = xs.length := by
    have := StrsAre.len_eq hi
    rwa [Array.length_toList] at this
  obtain ⟨c, tl, hmro⟩ := F.called_set.mro
  have t1 := F.called_set.made
  have t2 := F.called_set.sub
  have t3 := F.called_set.notType
  have t4 := F.called_set.canCreate
  have t5 := F.typeCall_set_1 (.ref l)
  refine wpAny_call (codeAny_of_tree (by
    show wpAny _ _ (callAny (.type "set") _) _ _ _
    exact wpAny_pure ⟨Code.quiet_builtin _ (by decide +kernel), codeAny_builtin F.entry_type_call (by
      rw [Around.under_plain (weight_type_call_type "set" [.ref l] []) rfl]
      repeat (any_goals (first | assumption | wp_step))
      refine codeAny_mono (code_set_led1 (.ref l) (E := E) (Q₁ := fun v s₁ => v = .ref s.heap.objs.size ∧ s₁ = { s with heap := s.heap.push (setOb w) }) ⟨rfl, rfl⟩) fun r s₁ hr => ?_
      rcases r with e | fl
      · exact hr
      cases fl with
      | ret v =>
        obtain ⟨rfl, rfl⟩ := hr
        have gS : (s.heap.push (setOb w)).get? s.heap.objs.size = some (setOb w) := Heap.get?_push_size _ rfl
        have tS : Shared.TypeIs { s with heap := s.heap.push (setOb w) } (.ref s.heap.objs.size) "set" := ⟨_, gS, rfl⟩
        have t6 := F.called_set.init.lookup
        have t7 := F.called_set.init.bind (.ref s.heap.objs.size)
        repeat (any_goals (first | assumption | wp_step))
        refine codeAny_mono (codeAny_call_builtin (R := wants (fun r s₂ => r = .none ∧ ∃ h' tk D, s₂ = { s with heap := h', toks := tk } ∧ h'.get? s.heap.objs.size = some (Froz.sObj "set" D) ∧ TxS P w D (dd xs xs.length) ∧ ∀ b o, s.heap.get? b = some o → h'.get? b = some o) E) F.called_set.init.plain F.entry_set_init (check_set_init_1 tS ?_)) fun r₂ s₂ hr₂ => ?_
        · obtain ⟨⟨oc, od, odt, osl⟩, go, hc, nl, hd⟩ := hl
          simp only at hc hd
          subst hc; subst hd
          have go' : (s.heap.push (setOb w)).get? l = some { cls := .type "tuple", dict := od, data := .seq its nl, slots := osl } := Heap.get?_push_of_some _ go
          have u1 := F.sub_tuple_set
          have u2 := F.sub_tuple_frozenset
          have u3 : (Value.type "tuple" == Value.type "dict") = false := by decide
          have il : (s.heap.push (setOb w)).IsTuple l its := ⟨_, go', rfl, nl, rfl⟩
          unfold Builtin.«set.__init__» noKeywords Builtin.Frozenset.updateFrom
          generalize hPI : pyIter = PI
          wp_walk
          subst hPI
          refine wpAny_pyIter_tuple il (wpAny_bind (wpAny_runValue ?_))
          have ll : l < s.heap.objs.size := Heap.lt_size go
          have n1 : s.heap.objs.size ≠ (s.heap.push (setOb w)).objs.size := by rw [Heap.size_push]; exact Nat.ne_of_lt (Nat.lt_succ_self _)
          have n2 : l ≠ (s.heap.push (setOb w)).objs.size := by rw [Heap.size_push]; exact Nat.ne_of_lt (Nat.lt_succ_of_lt ll)
          have nS : s.heap.objs.size ∉ [(s.heap.push (setOb w)).objs.size, l] := fun hm => by
            rcases List.mem_cons.mp hm with z | z
            · exact n1 z
            · exact Nat.ne_of_lt ll (List.mem_singleton.mp z).symm
          have hv : ∀ (i : Nat) (v : Value), its[i]? = some v → ∃ k t, xs[i]? = some k ∧ v = .str k t := fun i v e => by
            exact txs_at hi i v (by rw [Array.getElem?_toList]; exact e)
          refine tx_loop (P := P) (w := w) (s := { s with heap := (s.heap.push (setOb w)).push { cls := .type "tuple_iterator", data := .fields #[.ref l, .int 0 0] } }) ((Walks.tuple (A := A.in1.in1.in1) (by simp [hh]) _ l n2 its).toS) s.heap.objs.size nS xs en hb hv (fun s1 s' D hm gD T es => ?_) (its.size - 0) 0 _ rfl (Nat.zero_le _) ⟨⟨_, Heap.get?_push_size _ rfl, rfl, rfl⟩, il.push _⟩ (fun _ => rfl) (fun z => absurd rfl z) ⟨setNew w, Heap.get?_push_of_some _ gS, TxS.zero⟩
          subst es
          obtain ⟨h', g2, d', tk', os'⟩ := s'
          obtain rfl : g2 = s.gens := hm.gens
          obtain rfl : d' = s.drawn := hm.drawn
          obtain rfl : os' = s.os := hm.os
          rw [en] at T
          refine wpAny_pure ?_
          show wpAny _ _ (ret Value.none) _ _ _
          refine wpAny_pure ⟨rfl, h', tk', D, rfl, gD, T, fun b o e => ?_⟩
          have hbl : b < s.heap.objs.size := Heap.lt_size e
          refine hm.heap b o (fun hm2 => ?_) (Heap.get?_push_of_some _ (Heap.get?_push_of_some _ e))
          rcases List.mem_cons.mp hm2 with z | z
          · exact Nat.ne_of_lt hbl z
          · have z2 := List.mem_singleton.mp z
            rw [Heap.size_push] at z2
            exact Nat.ne_of_lt (Nat.lt_succ_of_lt hbl) z2
        · rcases r₂ with e | fl₂
          · exact hr₂
          cases fl₂ with
          | ret r =>
            obtain ⟨rfl, h', tk, D, rfl, gD, T, kk⟩ := hr₂
            repeat (any_goals (first | assumption | wp_step))
            exact h _ _ _ gD T kk
          | _ => exact hr₂.elim
      | _ => exact hr.elim)⟩))
end
theorem TxS.setOf {P : Program} {w : World} {D : Froz.SD} {l : List Str} {h : Heap} {a : Addr} (T : TxS P w D l) (g : h.get? a = some (Froz.sObj "set" D)) (hb : l.length < scanBound) : h.SetOf (strKind P w) a (fun k => decide (k ∈ l)) l.length :=
  ⟨_, _, _, _, g, ⟨rfl, rfl, rfl⟩, rfl, T.ok.el, fun k => by rw [decide_eq_true_eq]; exact T.ok.mem k, by rw [show D.1.size = l.length from T.ok.sz]; exact hb, T.ok.fit, T.ok.sz⟩
section
variable {X : Cx}
/-- set(xs), xs a tuple of texts -/
def rSetTt (K : PySem.W.Frag) (P : Program) (w : World) : List V → Hp → VK → Prop := fun xs H Q => ∃ (l : Addr) (zs : List Str), xs = [.ref l] ∧ (SqL K H l (zs.map V.str) ∨ SqT K H l (zs.map V.str)) ∧ zs.length + 1 < scanBound ∧ ∀ a, H a = none → Q (.ref a) (upd H a (StrO P w a (dd zs zs.length)))
theorem cr_setTt (hc : X.calm = true) : CallR X (.type "set") (rSetTt X.K X.prog X.w) := by
  intro pins s σ H xs us Q I r h
  obtain ⟨l, zs, rfl, hl, hb, q⟩ := h
  rcases hl with hl | hl
  · exact cr_setTx hc pins s σ H [.ref l] us Q I r ⟨l, zs, rfl, hl, hb, q⟩
  rw [Vals.ref1 r]
  obtain ⟨its, rv, pl, hz⟩ := I.tuple hl
  refine call_set_txt (P := X.prog) (w := X.w) zs (I.ok.hd hc) pl (by simpa using rv.strs) hb fun h' tk D g T k => ?_
  exact ⟨.ref s.heap.objs.size, _, I.laid (t' := tk) k (Nat.le_refl _) (strO_new g T), rfl, q _ (I.hok.fresh (Nat.le_refl _))⟩
/-- len of it -/
def rLenTx (P : Program) (w : World) : List V → Hp → VK → Prop := fun xs H Q => ∃ (a : Addr) (l : List Str), xs = [.ref a] ∧ H a = some (StrO P w a l) ∧ l.length < 1000000 ∧ Q (.int (l.length : Nat)) H
theorem cr_lenTx : CallR X (.builtin "len") (rLenTx X.prog X.w) := by
  intro pins s σ H xs us Q I r h
  obtain ⟨a, l, rfl, ha, hl, q⟩ := h
  obtain ⟨D, g, T⟩ := (I.hok a _ ha).1
  rw [Vals.ref1 r]
  have sz : D.1.size = l.length := T.ok.sz
  have hfit : ((D.1.size : Nat) : Int) < 2 ^ 63 := by
    rw [sz]
    omega
  refine call_len_set g ⟨rfl, rfl, rfl⟩ rfl T.ok.fit hfit ⟨.int (l.length : Nat), H, I.tok _, ⟨s.toks + 1, ?_⟩, q⟩
  show Value.int ((D.1.size : Nat) : Int) (s.toks + 1) = Value.int ((l.length : Nat) : Int) (s.toks + 1)
  rw [sz]
/-- x in it -/
def rInTx (P : Program) (w : World) : R2 := fun x y H Q => ∃ (z : Str) (a : Addr) (l : List Str), x = .str z ∧ y = .ref a ∧ H a = some (StrO P w a l) ∧ l.length < scanBound ∧ Q (.bl (decide (z ∈ l))) H
theorem op_inTx : OpR X (compareOp .In) (rInTx X.prog X.w) := by
  intro pins s σ H x y v u Q I rx ry h
  obtain ⟨z, a, l, rfl, rfl, ha, hl, q⟩ := h
  obtain ⟨D, g, T⟩ := (I.hok a _ ha).1
  obtain ⟨t, rfl⟩ := rx
  cases ry
  exact wpAny_inSet_of (knd := strKind X.prog X.w) (k := z) (Froz.is_str z t) rfl (T.setOf g hl) ⟨.bl _, H, I.tok _, rfl, q⟩
end
/-- as many as the list has: no text twice -/
theorem dd_all (xs : List Str) : (dd xs xs.length).length = xs.length ↔ xs.Nodup := by
  constructor
  · intro h
    have key : ∀ i, i ≤ xs.length → (dd xs i).length = i → (xs.take i).Nodup := by
      intro i
      induction i with
      | zero => intro _ _; exact List.nodup_nil
      | succ i ih =>
        intro hi hl
        have hk : xs[i]? = some xs[i] := List.getElem?_eq_getElem (by omega)
        have h1 := dd_len xs i
        rw [dd_succ hk] at hl
        split at hl
        · omega
        · rename_i hn
          rw [List.length_cons] at hl
          have := ih (by omega) (by omega)
          rw [List.take_succ, hk, Option.toList_some, List.nodup_append]
          refine ⟨this, by simp, fun a ha b hb e => hn ((dd_mem xs _ i).mpr ?_)⟩
          rw [← List.mem_singleton.mp hb, ← e]
          exact ha
    have := key xs.length (Nat.le_refl _) h
    rwa [List.take_length] at this
  · intro hn
    have key : ∀ i, i ≤ xs.length → (dd xs i).length = i := by
      intro i
      induction i with
      | zero => intro _; rfl
      | succ i ih =>
        intro hi
        have hk : xs[i]? = some xs[i] := List.getElem?_eq_getElem (by omega)
        rw [dd_succ hk, if_neg ?_, List.length_cons, ih (by omega)]
        intro hm
        have h1 := (dd_mem xs _ i).mp hm
        have h2 : (xs.take (i + 1)).Nodup := List.Nodup.sublist (List.take_sublist _ _) hn
        rw [List.take_succ, hk, Option.toList_some, List.nodup_append] at h2
        exact h2.2.2 _ h1 _ (List.mem_singleton.mpr rfl) rfl
    exact key xs.length (Nat.le_refl _)
end Sl
/-! ## Tr9 -/
set_option Elab.async false
set_option linter.all false
set_option maxRecDepth 100000
set_option maxHeartbeats 4000000
/-! Tr9: isinstance, lists or tuples, sets' sizes, enumerate, zip, attributes, raise; own work. -/
namespace Tr
open PySem PySem.Spec PyProof.Rows L2 _root_.Sl
/-! ### isinstance -/
/-- what isinstance asks of the own classes -/
structure OwnTy (K : PySem.W.Frag) (Cs : List Addr) : Prop where
  cl : ∀ C ∈ Cs, Cls K C
  ca : ∀ C ∈ Cs, PySem.W.findIn K (.ref C) "__class__" = some (some (.builtin "object.__class__"))
  sg : PySem.W.specialIn K (.builtin "object.__class__") "__get__" = some (some (.builtin "getset_descriptor.__get__"))
  tk : PySem.W.takesIn K (.builtin "object.__class__") = some true
  ob : ∀ C ∈ Cs, PySem.W.mroIn K C (.type "object") = some true
  bt : ∀ C ∈ Cs, ∀ s ∈ (["str", "int", "bool", "list", "tuple", "dict"] : List String), PySem.W.kitOne K (.ref C) (.type s) = some false
  tb : ∀ C ∈ Cs, ∀ s ∈ (["NoneType", "bool", "int", "str", "list", "tuple", "dict"] : List String), PySem.W.kitOne K (.type s) (.ref C) = some false
  oo : ∀ C ∈ Cs, ∀ D ∈ Cs, PySem.W.kitOne K (.ref C) (.ref D) = some (decide (C = D))
def tyT : T → Value
  | .non => .type "NoneType" | .bl _ => .type "bool" | .int _ => .type "int" | .str _ => .type "str" | .lst _ => .type "list" | .tup _ => .type "tuple" | .dic _ => .type "dict" | .obj C _ => .ref C | .src => .type "list"
def okTy (Cs : List Addr) : T → Bool | .obj C _ => decide (C ∈ Cs) | .src => false | _ => true
section
variable {K : PySem.W.Frag} {p : Option Addr} {G : Addr → Prop} {n : Nat} {H : Hp} {Cs : List Addr}
theorem ty_of (O : OwnTy K Cs) {t : T} {v : V} (ok : okTy Cs t = true) (r : RX K p G H t v) : TyX K H v (tyT t) := by
  cases t <;> try cases ok
  · obtain rfl := r.non; exact .base .non
  · obtain rfl := r.bl; exact .base (.bl _)
  · obtain rfl := r.int; exact .base (.int _)
  · obtain rfl := r.str; exact .base (.str _)
  · obtain ⟨a, vs, rfl, h, _⟩ := r.list; exact .base (.lst h)
  · obtain ⟨a, vs, rfl, h, _⟩ := r.tuple
    rcases h with (h | ⟨o, h⟩) | ⟨o, its, m, h, hc, _⟩
    · exact .base (.tup h)
    · exact .fTuple h
    · exact .kTuple h hc
  · obtain ⟨a, vs, rfl, h, _⟩ := r.dict; exact .base (.dK h)
  · rename_i C fs
    have hC : C ∈ Cs := of_decide_eq_true ok
    rcases r with r | ⟨a, e, _, c⟩
    · cases r with
      | obj h _ => exact .base (.ins (hid_in _ _ h) (O.cl C hC) (O.ca C hC) O.sg O.tk (O.ob C hC))
    · subst e
      cases c with
      | obj h _ _ => exact .base (.ins h (O.cl C hC) (O.ca C hC) O.sg O.tk (O.ob C hC))
/-- is a tree one of the class u -/
def isT (Cs : List Addr) (u : Value) (t : T) : Bool := match u with
  | .type s => (match t with | .bl _ => s == "bool" || s == "int" | .int _ => s == "int" | .str _ => s == "str" | .lst _ => s == "list" | .tup _ => s == "tuple" | .dic _ => s == "dict" | _ => false)
  | .ref D => (match t with | .obj C _ => decide (C = D) | _ => false)
  | _ => false
def okU (Cs : List Addr) : Value → Bool | .type s => s ∈ (["str", "int", "bool", "list", "tuple", "dict"] : List String) | .ref D => decide (D ∈ Cs) | _ => false
theorem kit_isT (O : OwnTy K Cs) {t : T} {u : Value} (ok : okTy Cs t = true) (ou : okU Cs u = true) : PySem.W.kitOne K (tyT t) u = some (isT Cs u t) := by
  cases u <;> try cases ou
  case type s =>
    have hs : s ∈ (["str", "int", "bool", "list", "tuple", "dict"] : List String) := of_decide_eq_true ou
    cases t <;> try cases ok
    case obj C fs => exact O.bt C (of_decide_eq_true ok) s hs
    all_goals
      simp only [List.mem_cons, List.not_mem_nil, or_false] at hs
      rcases hs with rfl | rfl | rfl | rfl | rfl | rfl <;> first
        | exact (kit_ty (r := false) (by decide +kernel)).trans (by first | rfl | simp [isT])
        | exact (kit_ty (r := true) (by decide +kernel)).trans (by first | rfl | simp [isT])
  case ref D =>
    have hD : D ∈ Cs := of_decide_eq_true ou
    cases t <;> try cases ok
    case obj C fs => exact O.oo C (of_decide_eq_true ok) D hD
    all_goals exact O.tb D hD _ (by decide)
def uV : Value → V | .type s => .ty s | .ref a => .ref a | _ => .non
theorem uV_cls {u : Value} (ou : okU Cs u = true) : ClsV (uV u) u := by
  cases u <;> try cases ou
  case type s => exact .ty s
  case ref a => exact .own a
variable {te : TE} {We : WE}
def wIsi (Cs : List Addr) (us : List Value) (We : WE) : WE := fun E n k => We E n fun t m => if okTy Cs t = true then k (.bl (us.any fun u => isT Cs u t)) m else False
theorem et_isi {u : Value} (O : OwnTy K Cs) (ou : okU Cs u = true) (h : EX K p te We) : ET K p (tCB (rIsi K) (tCons te (tCons (tC (uV u)) tNil))) (wIsi Cs [u] We) := ⟨fun G ad E n σ H Q w rl q => by
  refine h.ev G ad E n σ H _ w rl (h.mo _ _ _ _ (fun t m q v H1 k1 w1 r1 => ?_) q)
  obtain ⟨ok, q⟩ := ite_get q
  refine ⟨v, uV u, tyT t, u, isT Cs u t, rfl, uV_cls ou, ty_of O ok r1, kit_isT O ok ou, ?_⟩
  have e : ([u].any fun u => isT Cs u t) = isT Cs u t := by simp
  rw [e] at q
  exact q _ H1 k1 w1 (.bl _), fun E n k k' hk q => h.mo _ _ _ _ (fun t m q => ite_mono (hk _ _) q) q⟩
theorem et_isi2 {u u' : Value} (O : OwnTy K Cs) (ou : okU Cs u = true) (ou' : okU Cs u' = true) (h : EX K p te We) : ET K p (tCB (rIsiT K) (tCons te (tCons (tTup (tCons (tC (uV u)) (tCons (tC (uV u')) tNil))) tNil))) (wIsi Cs [u, u'] We) := ⟨fun G ad E n σ H Q w rl q => by
  refine h.ev G ad E n σ H _ w rl (h.mo _ _ _ _ (fun t m q v H1 k1 w1 r1 => ?_) q)
  obtain ⟨ok, q⟩ := ite_get q
  refine ⟨(by show 2 ≤ sizeLine; decide), fun a ha => ?_⟩
  refine ⟨v, a, _, tyT t, [u, u'], [u, u'].any fun u => isT Cs u t, rfl, upd_same, .cons (uV_cls ou) (.cons (uV_cls ou') .nil), ?_, ?_, ?_⟩
  · exact ty_of O ok (r1.kp w1.hd (Kp.new ha))
  · exact kitAny_cons (b := isT Cs u t) (r := [u, u'].any fun u => isT Cs u t) (kit_isT O ok ou) (fun e => by
      refine kitAny_cons (b := isT Cs u' t) (kit_isT O ok ou') (fun e' => ?_) (fun e' => ?_)
      · rw [show ([u, u'].any fun u => isT Cs u t) = false by simp [e, e']]
        exact kitAny_nil
      · simp [e']) (fun e => by simp [e])
  · exact q _ _ (k1.trans (Kp.new ha)) (w1.new ha) (.bl _), fun E n k k' hk q => h.mo _ _ _ _ (fun t m q => ite_mono (hk _ _) q) q⟩
theorem et_isiM {us : List Value} (h : EX K p te We) : ET K p (fun _ _ _ => True) (wIsi Cs us We) := ⟨fun _ _ _ _ _ _ _ _ _ _ => trivial, fun E n k k' hk q => h.mo _ _ _ _ (fun t m q => ite_mono (hk _ _) q) q⟩
end
/-! ### a list or a tuple -/
def iSeq (K : PySem.W.Frag) (tl : TE) : TI := fun σ H R => tl σ H fun x H1 => ∃ a, x = .ref a ∧ (((∃ xs, SqL K H1 a xs) ∧ R (Itl K a) H1) ∨ ((∃ xs, SqT K H1 a xs) ∧ R (Itt K a) H1))
theorem pi_seq {X : Cx} {tg l : Expr} {tl : TE} (hl : PE X l tl) : PI X tg l (iSeq X.K tl) := by
  refine ⟨fun pins s σ H R I h => ?_⟩
  refine thn (hl.run pins s σ H _ I h) fun v s1 ⟨x, H1, I1, r1, q1⟩ => ?_
  obtain ⟨a, e, q⟩ := q1
  subst e
  cases r1
  rcases q with ⟨⟨xs, hq⟩, q⟩ | ⟨⟨xs, hq⟩, q⟩
  · obtain ⟨its, rv, p, hz⟩ := I1.list hq
    refine wpAny_pyIter_list p.isList ?_
    refine ⟨s1.heap.objs.size, [s1.heap.objs.size], _, _, H1, rfl, I1.kept (t' := s1.toks) fun b o e => Heap.get?_push_of_some _ e, turn_list a _, ⟨_, Heap.get?_push_size _ rfl, rfl, rfl⟩, fun b hb => ?_, q⟩
    have e : b = s1.heap.objs.size := by simpa using hb
    subst e
    exact I1.fpOk (Nat.le_refl _) (I1.hok.fresh (Nat.le_refl _))
  · obtain ⟨its, rv, p, hz⟩ := I1.tuple hq
    refine wpAny_pyIter_tuple (show s1.heap.IsTuple a its.toArray from p) ?_
    refine ⟨s1.heap.objs.size, [s1.heap.objs.size], _, _, H1, rfl, I1.kept (t' := s1.toks) fun b o e => Heap.get?_push_of_some _ e, turn_tuple a _, ⟨_, Heap.get?_push_size _ rfl, rfl, rfl⟩, fun b hb => ?_, q⟩
    have e : b = s1.heap.objs.size := by simpa using hb
    subst e
    exact I1.fpOk (Nat.le_refl _) (I1.hok.fresh (Nat.le_refl _))
section
variable {K : PySem.W.Frag} {p : Option Addr} {G : Addr → Prop} {n : Nat} {H : Hp}
def seqT : T → Option (List T) | .lst ts => some ts | .tup ts => some ts | _ => none
def iSeqT (We : WE) : WA := fun E n k => We E n fun t m => opt (seqT t) fun ts => k ts m
variable {te : TE} {We : WE}
theorem eis_seq (h : ET K p te We) : EIS K p (iSeq K te) (iSeqT We) := ⟨fun G ad E n σ H R w rl q => by
  refine h.ev G ad E n σ H _ w rl (h.mo _ _ _ _ (fun t m q v H1 k1 w1 r1 => ?_) q)
  obtain ⟨ts, e, q⟩ := opt_some q
  cases t <;> try cases e
  · cases r1 with
    | lst ha rs =>
      rename_i a vs
      obtain ⟨na, ha⟩ := hid_to ha
      refine ⟨a, rfl, .inl ⟨⟨vs, SqL.of ha⟩, q _ H1 k1 w1 ⟨?_⟩⟩⟩
      rw [← rs.length]
      refine walk_list.mono (fun H2 k2 => SqL.of (k2 _ _ na ha)) fun i H2 x H3 hi k2 ⟨e, hx⟩ => ?_
      subst e
      refine ⟨.refl _ _, fun G' m' w' => ⟨w', fun hg => ?_⟩⟩
      obtain ⟨t, et, rt⟩ := rs.back hx
      exact ⟨t, et, rt.mono (k2.hid2 hg)⟩
  · cases r1 with
    | tup ha rs =>
      rename_i a vs
      refine ⟨a, rfl, .inr ⟨⟨vs, sqt_same hid_in ha⟩, q _ H1 k1 w1 ⟨?_⟩⟩⟩
      rw [← rs.length]
      refine walk_tup.mono (fun H2 k2 => sqt_same hid_in (sqt_same (k2.hid2 (G' := G) fun _ z => .inl z) ha)) fun i H2 x H3 hi k2 ⟨e, hx⟩ => ?_
      subst e
      refine ⟨.refl _ _, fun G' m' w' => ⟨w', fun hg => ?_⟩⟩
      obtain ⟨t, et, rt⟩ := rs.back hx
      exact ⟨t, et, rt.mono (k2.hid2 hg)⟩, fun E n k k' hk q => h.mo _ _ _ _ (fun t m q => opt_mono (fun ts q => hk _ _ q) q) q⟩
theorem EIS.ei {wi : TI} {W : WA} (h : EIS K p wi W) : EI K p wi W := ⟨fun G ad E n σ H R w rl q => h.ev G ad E n σ H R w rl (h.mo _ _ _ _ (fun ts m q J H1 k1 w1 wt => q J H1 k1 w1 ⟨wt.w.mono (fun H2 k2 => k2.q w1.hd) fun i H2 x H3 hi k2 y => y⟩) q), h.mo⟩
def fIxQ : T → T → Option T | .lst xs, .int i => atI xs i | .tup xs, .int i => atI xs i | _, _ => none
def rIxQ (K : PySem.W.Frag) : R2 := fun x y H Q => rIxL K x y H Q ∨ rIxT K x y H Q
theorem ix_seqQ {X : Cx} : IxR X (rIxQ X.K) := IxR.or ix_list ix_tup
theorem o_ixQ : Op2 K p (rIxQ K) fIxQ := fun G n H x y z v w Q wd r1 r2 e q => by
  cases x <;> cases y <;> try cases e
  · exact .inl (o_ixL G n H _ _ z v w Q wd r1 r2 e q)
  · exact .inr (o_ixT G n H _ _ z v w Q wd r1 r2 e q)
/-- xs[lo:hi] of a list or (not the whole) of a tuple -/
def rSlQ (K : PySem.W.Frag) : V → Option Int → Option Int → Hp → VK → Prop := fun x lo hi H Q => rSlL K x lo hi H Q ∨ rSlT K x lo hi H Q
theorem sl_seqQ {X : Cx} : SlR X (rSlQ X.K) := SlR.or sl_list sl_tup
variable {to1 to2 : TO} {W1 W2 : WO}
def wSlQ (We : WE) (W1 W2 : WO) : WE := fun E n k => We E n fun t m => W1 E m fun lo m1 => W2 E m1 fun hi m2 => match t with
  | .lst xs => k (.lst (cutT xs lo hi)) m2
  | .tup xs => if ¬ (HT.sIx xs.length 0 lo = 0 ∧ HT.sIx xs.length xs.length hi = xs.length) then k (.tup (cutT xs lo hi)) m2 else False
  | _ => False
theorem et_slQ (ha : EX K p te We) (h1 : EO K p to1 W1) (h2 : EO K p to2 W2) : ET K p (tSl (rSlQ K) te to1 to2) (wSlQ We W1 W2) := ⟨fun G ad E n σ H Q w rl q => by
  refine ha.ev G ad E n σ H _ w rl (ha.mo _ _ _ _ (fun t m q v H1 k1 w1 r1 => ?_) q)
  refine h1.ev G ad E m σ H1 _ w1 (rl.kp w.hd k1) (h1.mo _ _ _ _ (fun lo m1 q H2 k2 w2 => ?_) q)
  refine h2.ev G ad E m1 σ H2 _ w2 ((rl.kp w.hd k1).kp w.hd k2) (h2.mo _ _ _ _ (fun hi m2 q H3 k3 w3 => ?_) q)
  cases t <;> try cases q
  · obtain ⟨a, vs, rfl, h, s⟩ := ((r1.kp w.hd k2).kp w.hd k3).list
    refine .inl ⟨a, vs, rfl, SqL.of h, fun b hb => q _ _ ((k1.trans (k2.trans k3)).trans (Kp.new hb)) (w3.new hb) ?_⟩
    have e := s.length
    unfold cutV cutT
    rw [← e]
    exact R.newL w3 hb ((s.drop _).take _)
  · obtain ⟨hc, q⟩ := ite_get q
    obtain ⟨a, vs, rfl, h, s⟩ := ((r1.kp w.hd k2).kp w.hd k3).tuple
    have e := s.length
    refine .inr ⟨a, vs, rfl, h, by rw [e]; exact hc, fun b hb => q _ _ ((k1.trans (k2.trans k3)).trans (Kp.new hb)) (w3.new hb) ?_⟩
    unfold cutV cutT
    rw [← e]
    exact R.newT w3 hb ((s.drop _).take _), fun E n k k' hk q => ha.mo _ _ _ _ (fun t m q => h1.mo _ _ _ _ (fun lo m1 q => h2.mo _ _ _ _ (fun hi m2 q => by cases t <;> first | exact hk _ _ q | exact ite_mono (hk _ _) q | cases q) q) q) q⟩
/-! ### how many texts differ -/
def wLenSet (We : WE) : WE := fun E n k => We E n fun t m => opt (seqT t) fun ts => opt (txts ts) fun xs => if xs.length + 1 < scanBound ∧ xs.length < 1000000 then k (.int ((dd xs xs.length).length : Nat)) m else False
theorem et_lenSet {P : Program} {w0 : World} (h : EX K p te We) : ET K p (tCB (rLenTx P w0) (tCons (tCB (rSetTt K P w0) (tCons te tNil)) tNil)) (wLenSet We) := ⟨fun G ad E n σ H Q w rl q => by
  refine h.ev G ad E n σ H _ w rl (h.mo _ _ _ _ (fun t m q v H1 k1 w1 r1 => ?_) q)
  obtain ⟨ts, e, q⟩ := opt_some q
  obtain ⟨xs, e2, q⟩ := opt_some q
  obtain ⟨⟨hz, hz2⟩, q⟩ := ite_get q
  have hs : ∃ a, v = .ref a ∧ (SqL K H1 a (xs.map V.str) ∨ SqT K H1 a (xs.map V.str)) := by
    cases t <;> try cases e
    · obtain ⟨a, vs, rfl, ha, s⟩ := r1.list
      rw [txts_eq e2] at s
      obtain rfl := s.ofStrs
      exact ⟨a, rfl, .inl (SqL.of ha)⟩
    · obtain ⟨a, vs, rfl, ha, s⟩ := r1.tuple
      rw [txts_eq e2] at s
      obtain rfl := s.ofStrs
      exact ⟨a, rfl, .inr ha⟩
  obtain ⟨a, rfl, hs⟩ := hs
  exact ⟨a, xs, rfl, hs, hz, fun b hb => ⟨b, _, rfl, upd_same, Nat.lt_of_le_of_lt (dd_len xs _) hz2, q _ _ (k1.trans (Kp.new hb)) (w1.new hb) (.int _)⟩⟩, fun E n k k' hk q => h.mo _ _ _ _ (fun t m q => opt_mono (fun ts q => opt_mono (fun xs q => ite_mono (hk _ _) q) q) q) q⟩
theorem et_lenSetM (h : EX K p te We) : ET K p (fun _ _ _ => True) (wLenSet We) := ⟨fun _ _ _ _ _ _ _ _ _ _ => trivial, fun E n k k' hk q => h.mo _ _ _ _ (fun t m q => opt_mono (fun ts q => opt_mono (fun xs q => ite_mono (hk _ _) q) q) q) q⟩
/-! ### zip of two lists -/
def zipT : List T → List T → List T
  | x :: xs, y :: ys => .tup [x, y] :: zipT xs ys
  | _, _ => []
theorem zipT_len : ∀ xs ys, (zipT xs ys).length = min xs.length ys.length
  | [], ys => by simp [zipT]
  | x :: xs, [] => by simp [zipT]
  | x :: xs, y :: ys => by
    show (zipT xs ys).length + 1 = _
    rw [zipT_len xs ys, List.length_cons, List.length_cons]
    omega
theorem zipT_at : ∀ {xs ys : List T} {i : Nat} {x y : T}, xs[i]? = some x → ys[i]? = some y → (zipT xs ys)[i]? = some (.tup [x, y])
  | [], _, _, _, _, e, _ => by simp at e
  | _ :: _, [], _, _, _, _, e => by simp at e
  | _ :: _, _ :: _, 0, _, _, e, e' => by
    simp at e e'
    subst e e'
    rfl
  | a :: xs, b :: ys, i + 1, x, y, e, e' => by
    show (zipT xs ys)[i]? = _
    exact zipT_at (by simpa using e) (by simpa using e')
variable {ta tb : TE} {Wa Wb : WE}
def lsT : T → Option (List T) | .lst ts => some ts | _ => none
theorem lsT_some {t : T} {ts : List T} (e : lsT t = some ts) : t = .lst ts := by
  cases t <;> try cases e
  rfl
def iZipT (Wa Wb : WE) : WA := fun E n k => Wa E n fun t m => Wb E m fun u m' => opt (lsT t) fun xs => opt (lsT u) fun ys => k (zipT xs ys) m'
theorem ei_zip (ha : ET K p ta Wa) (hb : ET K p tb Wb) : EI K p (iZip K (tCons ta (tCons tb tNil))) (iZipT Wa Wb) := ⟨fun G ad E n σ H R w rl q => by
  refine ha.ev G ad E n σ H _ w rl (ha.mo _ _ _ _ (fun t m q v H1 k1 w1 r1 => ?_) q)
  refine hb.ev G ad E m σ H1 _ w1 (rl.kp w.hd k1) (hb.mo _ _ _ _ (fun u m' q v' H2 k2 w2 r2 => ?_) q)
  obtain ⟨xs, e, q⟩ := opt_some q
  obtain ⟨ys, e', q⟩ := opt_some q
  obtain rfl := lsT_some e
  obtain rfl := lsT_some e'
  have r1 := r1.kp w1.hd k2
  cases r1 with
  | lst h1 s1 =>
    cases r2 with
    | lst h2 s2 =>
      rename_i a vs b ws
      obtain ⟨na, h1⟩ := hid_to h1
      obtain ⟨nb, h2⟩ := hid_to h2
      refine ⟨a, b, vs, ws, rfl, SqL.of h1, SqL.of h2, q _ H2 (k1.trans k2) w2 ⟨?_⟩⟩
      rw [zipT_len]
      refine (walk_zip (K := K) (a := a) (b := b) (xs := vs) (ys := ws) (n := min xs.length ys.length) (by rw [s1.length, s2.length])).mono (fun H3 k3 => ⟨SqL.of (k3 _ _ (fun z => na (w2.hd _ z)) h1), SqL.of (k3 _ _ (fun z => nb (w2.hd _ z)) h2)⟩) fun i H3 x H4 hi k3 ⟨T, y, z, ex, hT, e4, e5, e6⟩ => ?_
      subst ex e4
      refine ⟨Kp.new hT, fun G' m3 w3 => ⟨w3.new hT, fun hg => ?_⟩⟩
      obtain ⟨t1, et1, rt1⟩ := s1.back e5
      obtain ⟨t2, et2, rt2⟩ := s2.back e6
      exact ⟨_, zipT_at et1 et2, Tr.R.newT w3 hT (.cons (rt1.mono (k3.hid2 w2.hd hg)) (.cons (rt2.mono (k3.hid2 w2.hd hg)) .nil))⟩, fun E n k k' hk q => ha.mo _ _ _ _ (fun t m q => hb.mo _ _ _ _ (fun u m' q => opt_mono (fun ts q => opt_mono (fun xs q => hk _ _ q) q) q) q) q⟩
/-! ### attributes -/
def wFld (We : WE) (f : Str) : WE := fun E n k => We E n fun t m => match t with | .obj _ fs => opt (fs.lookup f) fun u => k u m | _ => False
theorem Rf.look {H : Hp} {fs : List (Str × T)} {ws : List (Str × V)} {f : Str} {t : T} (r : Rf K p H fs ws) (e : fs.lookup f = some t) : ∃ v, ws.lookup f = some v ∧ R K p H t v := by
  induction fs generalizing ws with
  | nil => cases e
  | cons kv rest ih =>
    cases r with
    | @cons x u v _ _ h1 h2 =>
      rw [List.lookup_cons] at e ⊢
      cases hb : f == x with
      | true => rw [hb] at e; cases e; exact ⟨v, rfl, h1⟩
      | false => rw [hb] at e; exact ih h2 e
end
end Tr
/-! ## Src -/
set_option Elab.async false
set_option linter.all false
set_option maxRecDepth 100000
set_option maxHeartbeats 4000000
namespace Lw
open PySem PySem.Spec PyProof.Rows L2 Sl
section
variable {P : Program} {w : World} {K : PySem.W.Frag} {mg : Str → Option Value} {base : Heap} {f : Addr} {fd : FuncData}
abbrev FnP (K : PySem.W.Frag) (x : Str) (st : Stmt) (dvs : List V) (f : Addr) (fd : FuncData) : Prop := FunD K x x (defArgs st) (defBody st) (defScope st) dvs [] f fd
theorem ok_draw (F : FnP K "_law_draw" s_l_draw [] f fd) (mInt : mg "int" = none) : FnOk P w K mg base CX0 1 f fd ["_law_source_here", "_law_many"] sp_draw := by
  refine F.ok sc_l_draw (fun vs H Q E h => ?_) (fun cdv A outer s H vs Q E hr h => ?_)
  · obtain ⟨p, m, n, rfl, _⟩ := h
    rfl
  · obtain ⟨p, m, n, rfl, ⟨g, sd, c, hp, s0, s1, c0, c1⟩, hn, hm, hm2, k⟩ := h
    have nd := sc_l_draw.nd
    refine ⟨_, PSs.nox (pss_cons (ps_asg (pe_op op_add (pe_ix ix_list (pv 0) pe_int (fun _ _ => rfl)) pe_int) (pg_sub (pv 0) pe_int set_list))
      (pss_cons (ps_if (pt_cmpR op_gt (pe_ix ix_list (pv 0) pe_int (fun _ _ => rfl)) pe_int (nomark _))
        (pss_cons (ps_set (i := 2) nd rfl (.inl rfl) (pe_op op_mod (pe_callTy call_int1 (by rfl) mInt boot_int (pa_cons (pe_ix ix_list (pv 0) pe_int (fun _ _ => rfl)) pa_nil)) (pv 1)))
        (pss_cons (ps_asg (pe_op op_fdivW (pe_ix ix_list (pv 0) pe_int (fun _ _ => rfl)) (pv 1)) (pg_sub (pv 0) pe_int set_list))
        (pss_one (ps_ret (pv 2))))) pss_nil)
      (pss_cons (ps_set (i := 3) nd rfl (.inl rfl) (pe_op op_mod (pe_op op_pow (pe_op op_add (pe_ix ix_list (pv 0) pe_int (fun _ _ => rfl)) (pe_op op_mul pe_int (pe_ix ix_list (pv 0) pe_int (fun _ _ => rfl)))) pe_int) pe_int))
      (pss_one (ps_ret (pe_op op_mod (pe_op op_mod (pe_op op_pow (pe_op op_add (pe_op op_add (pe_op op_mul (pv 3) pe_int) (pe_op op_mul (pe_op op_mul pe_int (pe_ix ix_list (pv 0) pe_int (fun _ _ => rfl))) (pe_ix ix_list (pv 0) pe_int (fun _ _ => rfl)))) pe_int) pe_int) pe_int) (pv 1))))))), ?_⟩
    refine ⟨_, rfl, p, _, _, _, rfl, rfl, SqL.of hp, rfl, _, _, rfl, rfl, _, rfl, p, _, _, 2, rfl, rfl, hp, rfl, ?_⟩
    have h1 : (upd H p (.lst [V.int g, V.int sd, V.int (c + 1)])) p = some (.lst [V.int g, V.int sd, V.int (c + 1)]) := upd_same
    refine ⟨_, rfl, p, _, _, _, rfl, rfl, SqL.of h1, rfl, _, _, rfl, rfl, _, rfl, ?_⟩
    refine ite2 (fun _ => ?_) (fun _ => ?_)
    · refine ⟨_, rfl, p, _, _, _, rfl, rfl, SqL.of h1, rfl, .inl ⟨_, rfl, _, rfl, _, _, rfl, rfl, hm, ?_⟩⟩
      refine ⟨_, rfl, p, _, _, _, rfl, rfl, SqL.of h1, rfl, _, rfl, _, _, rfl, rfl, wide_div (b := 200) hm (by omega) (by decide) (by decide), _, rfl, p, _, _, 0, rfl, rfl, h1, rfl, ?_⟩
      refine ⟨_, rfl, ?_⟩
      refine k _ _ (Int.emod_nonneg _ (by omega)) (Int.emod_lt_of_pos _ hm) ⟨g / m, sd, c + 1, upd_same, s0, s1, by omega, by omega⟩ ?_
      intro b o nb hb
      rw [upd_ne nb, upd_ne nb]
      exact hb
    · refine ⟨_, rfl, p, _, _, _, rfl, rfl, SqL.of h1, rfl, _, rfl, p, _, _, _, rfl, rfl, SqL.of h1, rfl, _, _, rfl, rfl, .inl (by decide), _, _, rfl, rfl, _, _, rfl, rfl, ⟨by decide, by decide, by omega⟩, _, _, rfl, rfl, (by show (0 : Int) < 2147483629; decide), ?_⟩
      generalize hz : (sd + 7919 * (c + 1)) ^ (5 : Int).toNat % 2147483629 = z
      have z0 : 0 ≤ z := by rw [← hz]; exact Int.emod_nonneg _ (by decide)
      have z1 : z < 2147483629 := by rw [← hz]; exact Int.emod_lt_of_pos _ (by decide)
      have cc : (16807 * (c + 1)) * (c + 1) ≤ 16807 * 100001 * 100001 := by
        exact Int.mul_le_mul (show 16807 * (c + 1) ≤ 16807 * 100001 by omega) (show c + 1 ≤ 100001 by omega) (by omega) (by omega)
      have cc0 : 0 ≤ (16807 * (c + 1)) * (c + 1) := Int.mul_nonneg (by omega) (by omega)
      refine ⟨_, rfl, _, _, rfl, rfl, .inr (by decide), _, rfl, p, _, _, _, rfl, rfl, SqL.of h1, rfl, _, _, rfl, rfl, .inl (by decide), _, rfl, p, _, _, _, rfl, rfl, SqL.of h1, rfl, _, _, rfl, rfl, .inl ⟨by omega, by omega⟩, _, _, rfl, rfl, _, _, rfl, rfl, _, _, rfl, rfl, ⟨by decide, by decide, by omega⟩, _, _, rfl, rfl, (by show (0 : Int) < 1000000007; decide), _, rfl, _, _, rfl, rfl, hm, ?_⟩
      refine k _ _ (Int.emod_nonneg _ (by omega)) (Int.emod_lt_of_pos _ hm) ⟨g, sd, c + 1, h1, s0, s1, by omega, by omega⟩ Keep.upd
end
end Lw
/-! ## Src2 -/
set_option Elab.async false
set_option linter.all false
set_option maxRecDepth 100000
set_option maxHeartbeats 4000000
namespace Lw
open PySem PySem.Spec PyProof.Rows L2 Sl
section
variable {P : Program} {w : World} {K : PySem.W.Frag} {mg : Str → Option Value} {base : Heap} {f : Addr} {fd : FuncData}
theorem ok_source (F : FnP K "_law_source" s_l_source [] f fd) (mInt : mg "int" = none) : FnOk P w K mg base CX0 1 f fd ["_law_script"] (sp_source K) := by
  refine F.ok sc_l_source (fun vs H Q E h => ?_) (fun cdv A outer s H vs Q E hr h => ?_)
  · obtain ⟨a, ns, rfl, _⟩ := h
    rfl
  · obtain ⟨a, ns, rfl, hS, hl, k⟩ := h
    have nd := sc_l_source.nd
    refine ⟨_, PSs.nox (pss_cons (ps_asg (pe_tup (pa_cons pe_int (pa_cons pe_int pa_nil))) (pg_tup rfl (pgs_cons (pg_name (i := 1) nd rfl (.inl rfl)) (pgs_cons (pg_name (i := 2) nd rfl (.inl rfl)) pgs_nil))))
      (pss_cons (ps_for PassesOwn.never rfl (pi_list (pv 0)) (pg_name (i := 3) nd rfl (Or.inl rfl))
        (pss_cons (ps_if (PW.pt (pw_and (pt_cmpR op_eq (pv 1) pe_int (nomark _)) (pw_and1 (pt_cmpR op_ge (pv 3) (pe_op op_pow pe_int pe_int) (nomark _)))))
          (pss_one (ps_set (i := 1) nd rfl (.inl rfl) (pv 3))) pss_nil)
        (pss_one (ps_set (i := 2) nd rfl (.inl rfl) (pe_op op_mod (pe_callTy call_int1 (by rfl) mInt boot_int (pa_cons (pe_op op_add (pe_op op_add (pe_op op_mul (pv 2) pe_int) (pv 3)) pe_int) pa_nil)) pe_int)))))
      (pss_one (ps_ret (pe_lst (pa_cons (pv 1) (pa_cons (pv 2) (pa_cons pe_int pa_nil)))))))), ?_⟩
    refine ⟨(by show 2 ≤ sizeLine; decide), fun t ht => ?_⟩
    refine ⟨t, _, rfl, SqT.of upd_same, rfl, _, _, rfl, _, _, rfl, rfl, ?_⟩
    have s1 : Same H (upd H t (.tup [V.int 0, V.int 17])) := fun b o e => by
      rw [upd_ne (ne_of_none e ht)]
      exact e
    generalize hH : upd H t (.tup [V.int 0, V.int 17]) = H1 at s1
    refine ⟨_, rfl, a, rfl, ⟨_, s1.seq hS⟩, for_list (K := K) (a := a) (xs := ns.map V.int) (fun i σ H2 => ∃ (g sd : Int) (v : Option V), σ = [some (.ref a), some (.int g), some (.int sd), v] ∧ H2 = H1 ∧ 0 ≤ sd ∧ sd < 2147483647)
      ⟨0, 17, none, rfl, rfl, by decide, by decide⟩ (fun i σ H2 _ ⟨_, _, _, _, e, _⟩ => by rw [e]; exact s1.seq hS) ?_ ?_⟩
    · rintro i y σ H2 hi ⟨g, sd, v, rfl, rfl, h0, h1⟩
      obtain ⟨z, rfl⟩ : ∃ z, y = V.int z := by
        rw [List.getElem?_map] at hi
        cases e : ns[i]? with
        | none =>
          rw [e] at hi
          cases hi
        | some z =>
          rw [e] at hi
          exact ⟨z, (Option.some.inj hi).symm⟩
      refine ⟨_, rfl, rfl, _, rfl, ?_⟩
      refine ite2 (fun hz => ?_) (fun hz => ?_)
      · refine ⟨_, rfl, _, _, rfl, rfl, ⟨by decide, by decide, by decide⟩, _, _, rfl, rfl, _, rfl, ?_⟩
        refine ite2 (fun _ => ?_) (fun _ => ?_)
        · refine ⟨_, rfl, ?_⟩
          refine ⟨_, rfl, _, _, rfl, rfl, .inl ⟨by omega, by omega⟩, _, rfl, _, _, rfl, rfl, _, _, rfl, rfl, .inl ⟨_, rfl, ?_⟩⟩
          refine ⟨_, _, rfl, rfl, (by show (0 : Int) < 2147483647; decide), ?_⟩
          exact ⟨_, _, _, rfl, rfl, Int.emod_nonneg _ (by decide), Int.emod_lt_of_pos _ (by decide)⟩
        · refine ⟨_, rfl, _, _, rfl, rfl, .inl ⟨by omega, by omega⟩, _, rfl, _, _, rfl, rfl, _, _, rfl, rfl, .inl ⟨_, rfl, ?_⟩⟩
          refine ⟨_, _, rfl, rfl, (by show (0 : Int) < 2147483647; decide), ?_⟩
          exact ⟨_, _, _, rfl, rfl, Int.emod_nonneg _ (by decide), Int.emod_lt_of_pos _ (by decide)⟩
      · refine iteF ?_
        refine ⟨_, rfl, _, _, rfl, rfl, .inl ⟨by omega, by omega⟩, _, rfl, _, _, rfl, rfl, _, _, rfl, rfl, .inl ⟨_, rfl, ?_⟩⟩
        refine ⟨_, _, rfl, rfl, (by show (0 : Int) < 2147483647; decide), ?_⟩
        exact ⟨_, _, _, rfl, rfl, Int.emod_nonneg _ (by decide), Int.emod_lt_of_pos _ (by decide)⟩
    · rintro σ H2 ⟨g, sd, v, rfl, rfl, h0, h1⟩
      refine ⟨_, rfl, _, rfl, (by show 3 ≤ sizeLine; decide), fun p hp => ?_⟩
      refine k p _ (s1.free hp) ⟨g, sd, 0, upd_same, h0, h1, by omega, by omega⟩ fun b o hb => ?_
      rw [upd_ne (ne_of_none (s1 b o hb) hp)]
      exact s1 b o hb
end
end Lw
/-! ## SlEq -/
set_option Elab.async false
set_option linter.all false
set_option maxRecDepth 100000
set_option maxHeartbeats 4000000
namespace Sl
open PySem PySem.Spec PyProof.Rows L2
/-- flat, or an object (then the very same one is meant) -/
def tame : V → Bool
  | .ref _ => true
  | v => flatB v
/-- xs != ys, two lists of the same tame items -/
def rNeS (K : PySem.W.Frag) : R2 := fun x y H Q => ∃ (a b : Addr) (xs : List V), x = .ref a ∧ y = .ref b ∧ SqL K H a xs ∧ SqL K H b xs ∧ (xs.all tame) = true ∧ Q (.bl false) H
theorem tame_same {A : Around} {s : Shared} {v : V} {u u' : Value} (r : RelV v u) (r' : RelV v u') (f : tame v = true) : SeqAt.EqAt A s u u' true := by
  cases v with
  | ref a =>
    cases (show u = Value.ref a from r)
    cases (show u' = Value.ref a from r')
    exact SeqAt.EqAt.same _
  | non => exact eqAt_same r r' rfl
  | bl b => exact eqAt_same r r' rfl
  | int i => exact eqAt_same r r' rfl
  | str z => exact eqAt_same r r' rfl
  | byt z => exact eqAt_same r r' rfl
  | flt z => cases f
  | ty z => cases f
theorem op_neS {X : Cx} (hu : X.A.units < cLine) : OpR X (compareOp .NotEq) (rNeS X.K) := by
  intro pins s σ H x y v u Q I rx ry h
  obtain ⟨a, b, xs, rfl, rfl, ha, hb, ht, q⟩ := h
  cases (show v = Value.ref a from rx)
  cases (show u = Value.ref b from ry)
  obtain ⟨us, r1, p1, _⟩ := I.list ha
  obtain ⟨ws, r2, p2, _⟩ := I.list hb
  have hsz : us.toArray.size = ws.toArray.size := by
    rw [List.size_toArray, List.size_toArray, ← r1.length, ← r2.length]
  have hall := List.all_eq_true.mp ht
  refine SeqAt.RcNeAt.lists (e := fun _ => true) p1.isList p2.isList hsz hu (fun j h1 h2 => ?_) X.prog X.w _ _ ?_
  · have j1 : j < xs.length := by
      rw [r1.length]
      simpa using h1
    obtain ⟨u1, e1, q1⟩ := r1.get (List.getElem?_eq_getElem j1)
    obtain ⟨u2, e2, q2⟩ := r2.get (List.getElem?_eq_getElem j1)
    have z := tame_same (A := X.A.in1) (s := s) q1 q2 (hall _ (List.getElem_mem j1))
    have k1 : us.toArray[j] = u1 := by
      have : us[j]? = some u1 := e1
      rw [List.getElem?_eq_getElem (by simpa using h1)] at this
      simpa using Option.some.inj this
    have k2 : ws.toArray[j] = u2 := by
      have : ws[j]? = some u2 := e2
      rw [List.getElem?_eq_getElem (by simpa using h2)] at this
      simpa using Option.some.inj this
    rw [k1, k2]
    exact z
  · rw [show ((List.range us.toArray.size).all fun _ => true) = true from List.all_eq_true.mpr fun _ _ => rfl]
    exact ⟨.bl false, H, I, rfl, q⟩
end Sl
/-! ## SlBits -/
set_option Elab.async false
set_option linter.all false
set_option maxRecDepth 100000
set_option maxHeartbeats 4000000
namespace Sl
open PySem PySem.Spec PyProof.Rows L2
theorem bits_bool {prog : Program} {w : World} {A : Around} {E : Value → Shared → Prop} {s : Shared} {b : Bool} {Q : Value → Shared → Prop} (h : Q (.int (if b then 1 else 0) s.toks) { s with toks := s.toks + 1 }) :
    wpAny (model prog w) A (call (.builtin "int.bit_length") [.bool b]) Q E s := by
  refine wpAny_call_entry PySem.F.slot_bool_bit_length (PySem.typeIs_bool s b) PyProof.Rows.entry_int_bit_length ?_ (PyProof.Rows.args_int_bit_length _)
  show wpAny _ _ (do ret (← mkInt (Builtin.Int.intBits (if b then 1 else 0)))) _ _ s
  refine wpAny_ret_mkInt ?_
  cases b
  · exact h
  · exact h
/-- x.bit_length() of an int, of a bool -/
def tBitsB (to : TE) : TE := fun σ H Q => to σ H fun x H1 => (∃ i, x = .int i ∧ Q (.int (Builtin.Int.intBits i : Nat)) H1) ∨ ∃ b, x = .bl b ∧ Q (.int (if b then 1 else 0)) H1
theorem pe_bitsB {X : Cx} {o : Expr} {to : TE} {apos pos : Pos} (ho : PE X o to) (hbase : attributeBase o "bit_length" X.env (eval o X.env) = eval o X.env := by rfl) (hline : (apos.endLine == pos.line) = true := by rfl) : PE X (.Call (.Attribute o "bit_length" apos) [] [] pos) (tBitsB to) := by
  refine ⟨fun pins s σ H Q I h => PySem.Call_method0 hbase hline (thn (ho.run pins s σ H _ I h) fun v s1 ⟨x, H1, I1, r1, q1⟩ => ?_)⟩
  rcases q1 with ⟨i, rfl, q1⟩ | ⟨b, rfl, q1⟩
  · obtain ⟨t, rfl⟩ := r1
    exact ⟨"int", _, PySem.F.plainAttrs_int, PyProof.Rows.slot_int_bit_length, PyProof.Rows.type_int_bit_length, typeIs_int _ _ _, (fun _ e => nomatch e), Calls.callWith_builtin rfl (PySem.evalArgs_none (call_int_bit_length ⟨.int _, H1, I1.tok _, ⟨_, rfl⟩, q1⟩))⟩
  · cases (show v = Value.bool b from r1)
    exact ⟨"bool", _, PySem.F.plainAttrs_bool, PySem.F.slot_bool_bit_length, PyProof.Rows.type_int_bit_length, PySem.typeIs_bool _ _, (fun _ e => nomatch e), Calls.callWith_builtin rfl (PySem.evalArgs_none (bits_bool ⟨.int _, H1, I1.tok _, ⟨_, rfl⟩, q1⟩))⟩
end Sl
/-! ## ErA -/
set_option Elab.async false
set_option linter.all false
set_option maxRecDepth 100000
set_option maxHeartbeats 4000000
namespace Lw
open PySem PySem.Spec PyProof.Rows L2 Sl
section
variable {P : Program} {w : World} {K : PySem.W.Frag} {mg : Str → Option Value} {base : Heap} {f : Addr} {fd : FuncData}
/-- what an error of these is made with -/
inductive Fld (H : Hp) : V → Prop where
  | non : Fld H .non
  | bl (b : Bool) : Fld H (.bl b)
  | int (i : Int) : Fld H (.int i)
  | str (x : Str) : Fld H (.str x)
  | lst {a : Addr} {xs : List V} (e : H a = some (.lst xs)) : Fld H (.ref a)
  | tup {a : Addr} {xs : List V} (e : H a = some (.tup xs)) : Fld H (.ref a)
  | dct {a : Addr} {kvs : List (Key × V)} (e : H a = some (.dK kvs)) : Fld H (.ref a)
theorem Fld.mono {H H' : Hp} {v : V} (h : Fld H v) (k : ∀ a o, H a = some o → (∃ xs, o = .lst xs) ∨ (∃ xs, o = .tup xs) ∨ (∃ kvs, o = .dK kvs) → H' a = some o) : Fld H' v := by
  cases h with
  | non => exact .non
  | bl b => exact .bl b
  | int i => exact .int i
  | str x => exact .str x
  | lst e => exact .lst (k _ _ e (.inl ⟨_, rfl⟩))
  | tup e => exact .tup (k _ _ e (.inr (.inl ⟨_, rfl⟩)))
  | dct e => exact .dct (k _ _ e (.inr (.inr ⟨_, rfl⟩)))
def sp_shown : Sp := fun vs H Q _ => ∃ v, vs = [v] ∧ Fld H v ∧ ∀ v', Q v' H
theorem ok_shown (F : FnP K "shown" s_shown [] f fd) (mI : mg "isinstance" = none) (mS : mg "str" = none) (mN : mg "int" = none) {t : Tok} (mB : mg "MOST_BITS" = some (.int 1000 t)) : FnOk P w K mg base CX0 1 f fd ["field"] sp_shown := by
  refine F.ok sc_shown (fun vs H Q E h => ?_) (fun cdv A outer s H vs Q E hr h => ?_)
  · obtain ⟨v, rfl, _⟩ := h
    rfl
  · obtain ⟨v, rfl, hv, k⟩ := h
    refine ⟨_, PSs.nox (pss_cons (ps_if (PW.pt (pw_or (pt_cmp (pc_isN (pv 0))) (pw_or1 (pt_val (pe_callB call_isi (by rfl) mI PyProof.Rows.Boot.«isinstance» (pa_cons (pv 0) (pa_cons (pe_bltn (v := .ty "str") (by rfl) mS PyProof.Rows.Boot.«str» rfl) pa_nil)))))))
        (pss_one (ps_ret (pv 0))) pss_nil)
      (pss_cons (ps_if (PW.pt (pw_and (pt_val (pe_callB call_isi (by rfl) mI PyProof.Rows.Boot.«isinstance» (pa_cons (pv 0) (pa_cons (pe_bltn (v := .ty "int") (by rfl) mN PyProof.Rows.Boot.«int» rfl) pa_nil)))) (pw_and1 (pt_cmpR op_le (pe_bitsB (pv 0)) (pe_glob (v := .int 1000) (by rfl) mB ⟨_, rfl⟩) (nomark _)))))
        (pss_one (ps_ret (pv 0))) pss_nil)
      (pss_one (ps_ret pe_str)))), ?_⟩
    cases hv with
    | non => exact ⟨_, rfl, _, rfl, iteT (iteT ⟨_, rfl, k _⟩)⟩
    | str x => exact ⟨_, rfl, _, rfl, iteF ⟨_, rfl, _, .ty "str", .type "str", .type "str", true, rfl, .ty _, .base (.str _), kit_ty (by decide +kernel), _, rfl, iteT ⟨_, rfl, k _⟩⟩⟩
    | bl b =>
      refine ⟨_, rfl, _, rfl, iteF ⟨_, rfl, _, .ty "str", .type "bool", .type "str", false, rfl, .ty _, .base (.bl _), kit_ty (by decide +kernel), _, rfl, iteF ?_⟩⟩
      refine ⟨_, rfl, _, .ty "int", .type "bool", .type "int", true, rfl, .ty _, .base (.bl _), kit_ty (by decide +kernel), _, rfl, iteT ?_⟩
      refine ⟨_, rfl, .inr ⟨_, rfl, _, _, rfl, rfl, _, rfl, ?_⟩⟩
      exact ite2 (fun _ => ⟨_, rfl, k _⟩) (fun _ => k _)
    | int i =>
      refine ⟨_, rfl, _, rfl, iteF ⟨_, rfl, _, .ty "str", .type "int", .type "str", false, rfl, .ty _, .base (.int _), kit_ty (by decide +kernel), _, rfl, iteF ?_⟩⟩
      refine ⟨_, rfl, _, .ty "int", .type "int", .type "int", true, rfl, .ty _, .base (.int _), kit_ty (by decide +kernel), _, rfl, iteT ?_⟩
      refine ⟨_, rfl, .inl ⟨_, rfl, _, _, rfl, rfl, _, rfl, ?_⟩⟩
      exact ite2 (fun _ => ⟨_, rfl, k _⟩) (fun _ => k _)
    | lst e =>
      refine ⟨_, rfl, _, rfl, iteF ⟨_, rfl, _, .ty "str", .type "list", .type "str", false, rfl, .ty _, .base (.lst e), kit_ty (by decide +kernel), _, rfl, iteF ?_⟩⟩
      exact ⟨_, rfl, _, .ty "int", .type "list", .type "int", false, rfl, .ty _, .base (.lst e), kit_ty (by decide +kernel), _, rfl, iteF (iteF (k _))⟩
    | tup e =>
      refine ⟨_, rfl, _, rfl, iteF ⟨_, rfl, _, .ty "str", .type "tuple", .type "str", false, rfl, .ty _, .base (.tup e), kit_ty (by decide +kernel), _, rfl, iteF ?_⟩⟩
      exact ⟨_, rfl, _, .ty "int", .type "tuple", .type "int", false, rfl, .ty _, .base (.tup e), kit_ty (by decide +kernel), _, rfl, iteF (iteF (k _))⟩
    | dct e =>
      refine ⟨_, rfl, _, rfl, iteF ⟨_, rfl, _, .ty "str", .type "dict", .type "str", false, rfl, .ty _, .base (.dK e), kit_ty (by decide +kernel), _, rfl, iteF ?_⟩⟩
      exact ⟨_, rfl, _, .ty "int", .type "dict", .type "int", false, rfl, .ty _, .base (.dK e), kit_ty (by decide +kernel), _, rfl, iteF (iteF (k _))⟩
end
end Lw
/-! ## NamA -/
set_option Elab.async false
set_option linter.all false
set_option maxRecDepth 100000
set_option maxHeartbeats 4000000
namespace Sl
open PySem PySem.Spec PyProof.Rows L2 TL
/-! ### names -/
abbrev alpha : Str := "abcdefghijklmnopqrstuvwxyz"
def letB (c : Nat) : Bool := decide (c ∈ alpha.cps.toList)
def nameB (z : Str) : Bool := decide (1 ≤ z.length) && (decide (z.length ≤ 8) && z.cps.toList.all letB)
theorem nameB_of {z : Str} (h1 : 1 ≤ z.length) (h2 : z.length ≤ 8) (h3 : ∀ c ∈ z.cps.toList, letB c = true) : nameB z = true := by
  unfold nameB
  rw [decide_eq_true h1, decide_eq_true h2, List.all_eq_true.mpr h3]
  rfl
theorem nameB_len {z : Str} (h : nameB z = true) : 1 ≤ z.length ∧ z.length ≤ 8 := by
  unfold nameB at h
  simp only [Bool.and_eq_true, decide_eq_true_eq] at h
  exact ⟨h.1, h.2.1⟩
theorem nameB_all {z : Str} (h : nameB z = true) : ∀ c ∈ z.cps.toList, letB c = true := by
  unfold nameB at h
  simp only [Bool.and_eq_true, decide_eq_true_eq] at h
  exact List.all_eq_true.mp h.2.2
/-- the text of these signs -/
def oneS (c : Nat) : Str := ⟨#[c]⟩
theorem joinL_ones : ∀ cs : List Nat, joinL [] ((cs.map oneS).map tl) = cs
  | [] => rfl
  | [_] => rfl
  | x :: z :: r => by
    show [x] ++ ([] ++ joinL [] (((z :: r).map oneS).map tl)) = x :: z :: r
    rw [joinL_ones (z :: r)]
    rfl
theorem join_ones (cs : List Nat) : Txt.join (⟨#[]⟩ : Str) (cs.map oneS) = ⟨cs.toArray⟩ := by
  rw [join_eq]
  refine ext_tl ?_
  rw [tl_join]
  show joinL [] _ = cs.toArray.toList
  rw [joinL_ones]
theorem join_none (cs : List Nat) : Txt.join (Str.ofString "") (cs.map oneS) = ⟨cs.toArray⟩ := Sl.join_ones cs
theorem inV_str {x : Str} {xs : List Str} : inV (.str x) (xs.map V.str) = decide (x ∈ xs) := by
  induction xs with
  | nil => rfl
  | cons y ys ih =>
    show (eqV (.str y) (.str x) || inV (.str x) (ys.map V.str)) = _
    rw [ih]
    show ((y == x) || decide (x ∈ ys)) = decide (x ∈ y :: ys)
    by_cases h : y = x
    · subst h
      simp
    · have h' : (y == x) = false := by simpa using h
      rw [h']
      have h2 : x ≠ y := fun e => h e.symm
      simp [h2]
theorem flat_strs (xs : List Str) : (xs.map V.str).all flatV = true := by
  rw [List.all_map]
  exact List.all_eq_true.mpr fun _ _ => rfl
/-- more than can be found there -/
theorem one_not_in {α : Type} [DecidableEq α] : ∀ (xs ys : List α), xs.Nodup → ys.length < xs.length → ∃ x, x ∈ xs ∧ x ∉ ys
  | [], ys, _, h => absurd h (Nat.not_lt_zero _)
  | x :: xs, ys, hn, h => by
    by_cases hx : x ∈ ys
    · obtain ⟨h1, h2⟩ := List.nodup_cons.mp hn
      have hl : (ys.erase x).length < xs.length := by
        rw [List.length_erase_of_mem hx]
        have := List.length_pos_of_mem hx
        simp only [List.length_cons] at h
        omega
      obtain ⟨z, hz, hny⟩ := one_not_in xs (ys.erase x) h2 hl
      refine ⟨z, List.mem_cons_of_mem _ hz, fun q => hny ?_⟩
      have ne : z ≠ x := fun e => h1 (e ▸ hz)
      exact (List.mem_erase_of_ne ne).mpr q
    · exact ⟨x, List.mem_cons_self, hx⟩
theorem tl_cut1 {z : Str} (h : 1 ≤ z.length) : tl (cutS z (some 1) none) = (tl z).drop 1 := by
  have e1 : HT.sIx z.length 0 (some 1) = 1 := by
    have : HT.sIx z.length 0 (some ((1 : Nat) : Int)) = 1 := by
      rw [HT.sIx_nat]
      omega
    exact this
  have e2 : HT.sIx z.length z.length none = z.length := rfl
  show ((z.cps.toList.drop (HT.sIx z.length 0 (some 1))).take (HT.sIx z.length z.length none - HT.sIx z.length 0 (some 1))).toArray.toList = _
  rw [e1, e2]
  show List.take (z.length - 1) (List.drop 1 (tl z)) = _
  rw [List.take_of_length_le]
  rw [List.length_drop, len_tl]
  omega
theorem tl_app (a b : Str) : tl (a ++ b) = tl a ++ tl b := by
  show (a.cps ++ b.cps).toList = _
  rw [Array.toList_append]
theorem nameB_q {z : Str} (h : nameB z = true) (h7 : z.length ≤ 8) : nameB (("q" : Str) ++ cutS z (some 1) none) = true := by
  have e : tl (("q" : Str) ++ cutS z (some 1) none) = 113 :: (tl z).drop 1 := by
    rw [tl_app, tl_cut1 (nameB_len h).1]
    rfl
  have l : (("q" : Str) ++ cutS z (some 1) none).length = 1 + ((tl z).drop 1).length := by
    rw [len_tl, e, List.length_cons]
    omega
  have lz := len_tl z
  refine nameB_of ?_ ?_ ?_
  · rw [l]
    omega
  · rw [l, List.length_drop]
    have := (nameB_len h).1
    omega
  · intro c hc
    rw [show (("q" : Str) ++ cutS z (some 1) none).cps.toList = 113 :: (tl z).drop 1 from e] at hc
    rcases List.mem_cons.mp hc with h1 | h1
    · subst h1
      decide +kernel
    · exact nameB_all h c (List.mem_of_mem_drop h1)
theorem sum_ones : ∀ cs : List Nat, ((cs.map oneS).map (fun z : Str => z.length)).sum = cs.length
  | [] => rfl
  | c :: r => by
    show (oneS c).length + ((r.map oneS).map (fun z : Str => z.length)).sum = r.length + 1
    rw [sum_ones r]
    show 1 + r.length = r.length + 1
    omega
abbrev rAddS : R2 := fun x y H Q => ∃ i j, x = .str i ∧ y = .str j ∧ i.length + j.length ≤ sizeLine ∧ Q (.str (i ++ j)) H
def zs : List Str := alpha.cps.toList.map fun c => ("z" : Str) ++ oneS c
theorem zs_nodup : zs.Nodup := by decide +kernel
theorem zs_names : zs.all nameB = true := by decide +kernel
theorem zs_len : zs.length = 26 := by decide +kernel
/-- what a drawn name may be -/
def sixW : List Str := ["old", "new", "do", "add", "set", "refuse"]
def drawn (z : Str) : Prop := nameB z = true ∧ (z.length ≤ 3 ∨ z.length = 8 ∨ z ∈ sixW ∨ ∃ r, tl z = 113 :: r)
theorem zs_drawn : ∀ z ∈ zs, drawn z := fun z hz => by
  have h := List.all_eq_true.mp (show (zs.all fun z => nameB z && decide (z.length ≤ 3)) = true by decide +kernel) z hz
  obtain ⟨h1, h2⟩ := Bool.and_eq_true_iff.mp h
  exact ⟨h1, .inl (of_decide_eq_true h2)⟩
theorem drawn_q {z : Str} (h : nameB z = true) (h7 : z.length ≤ 8) : drawn (("q" : Str) ++ cutS z (some 1) none) := by
  refine ⟨nameB_q h h7, .inr (.inr (.inr ⟨(tl z).drop 1, ?_⟩))⟩
  rw [tl_app, tl_cut1 (nameB_len h).1]
  rfl
/-- not drawn: four to seven signs, none of the six, no q ahead -/
theorem not_drawn {z : Str} (h1 : ¬ z.length ≤ 3) (h2 : z.length ≠ 8) (h3 : z ∉ sixW) (h4 : ∀ r, tl z ≠ 113 :: r) : ¬ drawn z := fun ⟨_, h⟩ => by
  rcases h with h | h | h | ⟨r, h⟩
  · exact h1 h
  · exact h2 h
  · exact h3 h
  · exact h4 r h
theorem nobody_not : ¬ drawn "nobody" := not_drawn (by decide +kernel) (by decide +kernel) (by decide +kernel) (fun r e => by
  have : (tl ("nobody" : Str)).head? = some 113 := by rw [e]; rfl
  exact absurd this (by decide +kernel))
theorem late_not : ¬ drawn "late" := not_drawn (by decide +kernel) (by decide +kernel) (by decide +kernel) (fun r e => by
  have : (tl ("late" : Str)).head? = some 113 := by rw [e]; rfl
  exact absurd this (by decide +kernel))
/-! ### draws, read -/
theorem at_in {α : Type} {xs : List α} {j : Int} (h0 : 0 ≤ j) (h1 : j < (xs.length : Int)) : ∃ v, atI xs j = some v ∧ v ∈ xs := by
  have hj : j.toNat < xs.length := by omega
  exact ⟨xs[j.toNat], atI_int h0 (List.getElem?_eq_getElem hj), List.getElem_mem hj⟩
theorem draw_of {σ : L2.St} {H : Hp} {Q : VK} {i : Nat} {m : Int} {n : Nat} {p : Addr} (h : σ[i]? = some (some (.ref p))) (hp : SrcAt H p n) (hn : n ≤ 100000) (h0 : 0 < m) (h1 : m < 2 ^ 200)
    (k : ∀ (j : Int) (H' : Hp), 0 ≤ j → j < m → SrcAt H' p (n + 1) → Keep p H H' → Q (.int j) H') : tCall sp_draw [] E0 (tCons (tVar i) (tCons (tC (.int m)) tNil)) σ H Q :=
  ⟨_, h, p, m, n, rfl, hp, hn, h0, h1, k⟩
theorem same_new {H : Hp} {p : Addr} {o : HO} (hp : H p = none) : Same H (L2.upd H p o) := fun b u e => by
  rw [upd_ne (ne_of_none e hp)]
  exact e
theorem sq_same {K : PySem.W.Frag} {a : Addr} {H H' : Hp} {xs : List V} (h : SqL K H a xs) (k : Same H H') : SqL K H' a xs := by
  rcases h with (h | ⟨o, h⟩) | h
  · exact .inl (.inl (k _ _ h))
  · exact .inl (.inr ⟨o, k _ _ h⟩)
  · exact .inr h
theorem alpha_size : alpha.cps.size = 26 := by decide +kernel
theorem Keep.of_same {p : Addr} {H H' : Hp} (h : Same H H') : Keep p H H' := fun b o _ e => h b o e
theorem asg_of {te : TE} {i : Nat} {u : TS} {D : Ends} {σ : L2.St} {H : Hp} (h : te σ H fun x H1 => u D (σ.set i (some x)) H1) : tSeq (tAsg te (gName i)) u D σ H := h
theorem ifs_of {c : TT} {t u v : TS} {D : Ends} {σ : L2.St} {H : Hp} (h : c σ H fun b H1 => if b = true then t { D with nx := v D } σ H1 else u { D with nx := v D } σ H1) : tSeq (tIfS c t u) v D σ H := h
theorem or_of {A B : TT} {σ : L2.St} {H : Hp} {Q : Bool → Hp → Prop} (h : A σ H fun c H1 => if c = true then Q true H1 else B σ H1 Q) : tOr A B σ H Q := h
theorem test_of {r : R2} {ta tb : TE} {σ : L2.St} {H : Hp} {Q : Bool → Hp → Prop} (h : ta σ H fun x H1 => tb σ H1 fun y H2 => r x y H2 fun x H' => ∃ k, x = .bl k ∧ Q k H') : tTest (tOp r ta tb) σ H Q := h
theorem nx_of {v : TS} {D D' : Ends} {σ : L2.St} {H : Hp} (h : v D σ H) : tNext { D' with nx := v D } σ H := h
theorem yes_of {σ : L2.St} {H : Hp} {Q : Bool → Hp → Prop} (h : Q true H) : tYes σ H Q := h
theorem ite_of {P1 P2 : Prop} {c : Bool} (h1 : c = true → P1) (h2 : c = false → P2) : if c = true then P1 else P2 := by
  cases c with
  | true => exact iteT (h1 rfl)
  | false => exact iteF (h2 rfl)

theorem TyX.same {K : PySem.W.Frag} {H H' : Hp} {v : V} {t : Value} (h : TyX K H v t) (k : Same H H') : TyX K H' v t := by
  cases h with
  | base b =>
    cases b with
    | non => exact .base .non
    | bl y => exact .base (.bl y)
    | int i => exact .base (.int i)
    | str y => exact .base (.str y)
    | flt y => exact .base (.flt y)
    | lst e => exact .base (.lst (k _ _ e))
    | frz e => exact .base (.frz (k _ _ e))
    | tup e => exact .base (.tup (k _ _ e))
    | dK e => exact .base (.dK (k _ _ e))
    | dT e => exact .base (.dT (k _ _ e))
    | ins e cl ha hn htk hm => exact .base (.ins (k _ _ e) cl ha hn htk hm)
  | byt y => exact .byt y
  | set e => exact .set (k _ _ e)
  | kList e c => exact .kList e c
  | kTuple e c => exact .kTuple e c
  | kDict e c => exact .kDict e c
  | fTuple e => exact .fTuple (k _ _ e)
  | fDict e => exact .fDict (k _ _ e)
end Sl
/-! ## SlFs -/
set_option Elab.async false
set_option linter.all false
set_option maxRecDepth 100000
set_option maxHeartbeats 4000000
namespace Sl
open PySem PySem.Spec PyProof.Rows L2
/-! objects that stand, all of them apart from p -/
def Fs (p : Addr) (H : Hp) (L : List (Addr × HO)) : Prop := ∀ (i : Nat) (a : Addr) (o : HO), L[i]? = some (a, o) → a ≠ p ∧ H a = some o
theorem Fs.get {p : Addr} {H : Hp} {L : List (Addr × HO)} (F : Fs p H L) (i : Nat) {a : Addr} {o : HO} (e : L[i]? = some (a, o)) : H a = some o := (F i a o e).2
theorem Fs.ne {p : Addr} {H : Hp} {L : List (Addr × HO)} (F : Fs p H L) (i : Nat) {a : Addr} {o : HO} (e : L[i]? = some (a, o)) : a ≠ p := (F i a o e).1
theorem Fs.keep {p : Addr} {H H' : Hp} {L : List (Addr × HO)} (F : Fs p H L) (k : Keep p H H') : Fs p H' L := fun i a o e => ⟨(F i a o e).1, k _ _ (F i a o e).1 (F i a o e).2⟩
theorem Fs.same {p : Addr} {H H' : Hp} {L : List (Addr × HO)} (F : Fs p H L) (k : Same H H') : Fs p H' L := fun i a o e => ⟨(F i a o e).1, k _ _ (F i a o e).2⟩
theorem Fs.nil {p : Addr} {H : Hp} : Fs p H [] := fun i a o e => by simp at e
theorem Fs.cons {p : Addr} {H : Hp} {L : List (Addr × HO)} {a : Addr} {o : HO} (n : a ≠ p) (h : H a = some o) (F : Fs p H L) : Fs p H ((a, o) :: L) := fun i b u e => by
  cases i with
  | zero =>
    have : (a, o) = (b, u) := by simpa using e
    cases this
    exact ⟨n, h⟩
  | succ i => exact F i b u (by simpa using e)
theorem Fs.app {p : Addr} {H : Hp} : ∀ {L M : List (Addr × HO)}, Fs p H L → Fs p H M → Fs p H (L ++ M)
  | [], _, _, G => G
  | (a, o) :: L, _, F, G => Fs.cons (F.ne 0 rfl) (F.get 0 rfl) (Fs.app (fun i b u e => F (i + 1) b u (by simpa using e)) G)
/-- an object other than q is put in -/
theorem Fs.put {p q : Addr} {H : Hp} {L : List (Addr × HO)} {o : HO} (F : Fs p H L) (n : ∀ (i : Nat) (a : Addr) (u : HO), L[i]? = some (a, u) → a ≠ q) : Fs p (upd H q o) L := fun i a u e => ⟨(F i a u e).1, by rw [upd_ne (n i a u e)]; exact (F i a u e).2⟩
theorem Fs.put_new {p q : Addr} {H H0 : Hp} {L : List (Addr × HO)} {o : HO} (F : Fs p H L) (F0 : Fs p H0 L) (h : H0 q = none) : Fs p (upd H q o) L := F.put fun i a u e z => by
  have := (F0 i a u e).2
  rw [z, h] at this
  cases this
theorem SrcAt.same {H H' : Hp} {p : Addr} {n : Nat} (h : SrcAt H p n) (k : Same H H') : SrcAt H' p n := by
  obtain ⟨g, s, c, e, a⟩ := h
  exact ⟨g, s, c, k _ _ e, a⟩
theorem SrcAt.ne_new {H : Hp} {p q : Addr} {n : Nat} (h : SrcAt H p n) (hq : H q = none) : q ≠ p := fun e => by
  obtain ⟨o, ho⟩ := h.there
  rw [e, ho] at hq
  cases hq
theorem SrcAt.put {H : Hp} {p q : Addr} {n : Nat} {o : HO} (h : SrcAt H p n) (ne : q ≠ p) : SrcAt (L2.upd H q o) p n := by
  obtain ⟨g, s, c, e, a⟩ := h
  exact ⟨g, s, c, by rw [upd_ne ne.symm]; exact e, a⟩
theorem Keep.back {p a : Addr} {H H' : Hp} (k : Keep p H H') (n : a ≠ p) (h : H' a = none) : H a = none := by
  cases e : H a with
  | none => rfl
  | some o => rw [k _ _ n e] at h; cases h
theorem of_none {H : Hp} {x y : Addr} {o : HO} (h1 : H x = none) (h2 : H y = some o) : y ≠ x := fun e => by rw [e, h1] at h2; cases h2
end Sl
/-! ## ErB -/
set_option Elab.async false
set_option linter.all false
set_option maxRecDepth 100000
set_option maxHeartbeats 4000000
namespace Lw
open PySem PySem.Spec PyProof.Rows L2 Sl
/-! ### __init__ of the errors -/
def sp_lot (K : PySem.W.Frag) : Sp := fun vs H Q _ => ∃ (a C : Addr) (v : V), vs = [.ref a, v] ∧ OexC K C ∧ H a = some (exo a C none) ∧ Fld H v ∧ Q .non H
def sp_init (K : PySem.W.Frag) (fld : Str) : Sp := fun vs H Q _ => ∃ (a C : Addr) (v : V), vs = [.ref a, v] ∧ OexC K C ∧ PySem.W.findIn K (.ref C) fld = some none ∧ H a = some (exo a C none) ∧ Fld H v ∧
  ∀ dx, H dx = none → dx ≠ a → Q .non (upd (upd H dx (exd dx [(fld, v)])) a (exo a C (some dx)))
def sp_init0 (K : PySem.W.Frag) : Sp := fun vs H Q _ => ∃ (a : Addr), vs = [.ref a] ∧ Q .non H
abbrev FnM (K : PySem.W.Frag) (q : Str) (st : Stmt) (f : Addr) (fd : FuncData) : Prop := FunD K "__init__" q (defArgs st) (defBody st) (defScope st) [] [] f fd
section
variable {P : Program} {w : World} {K : PySem.W.Frag} {mg : Str → Option Value} {base : Heap} {f : Addr} {fd : FuncData}
theorem ok_lot (F : FnM K "LotError.__init__" s_LotError___init__ f fd) (S : Cal P w K mg base 1 "shown" [] sp_shown) (mV : mg "ValueError" = none)
    (vV : PySem.W.findCls K (.type "ValueError") (.type "type") "__init__" = some (.val (.builtin "ValueError.__init__"))) : FnOk P w K mg base CX0 2 f fd ["self", "field"] (sp_lot K) := by
  refine F.ok sc_LotError___init__ (fun vs H Q E h => ?_) (fun cdv A outer s H vs Q E hr h => ?_)
  · obtain ⟨a, C, v, rfl, _⟩ := h
    rfl
  · obtain ⟨a, C, v, rfl, T, ha, hv, k⟩ := h
    refine ⟨_, PSs.nox (pss_one (ps_expr (pe_veinit (by rfl) mV vV (pa_cons (pv 0) (pa_cons (pe_cal S hr (pa_cons (pv 1) pa_nil)) pa_nil))))), ?_⟩
    exact ⟨_, rfl, _, rfl, v, rfl, hv, fun v' => ⟨a, C, [v'], rfl, (by show 1 ≤ 1000; decide), T, ha, k⟩⟩
/-- the class LotError as it is read for its __init__ -/
structure LotC (P : Program) (w : World) (K : PySem.W.Frag) (mg : Str → Option Value) (base : Heap) (L : Addr) : Prop where
  g : mg "LotError" = some (.ref L)
  rd : ClX.CRead K L (.type "type")
  ex : ∃ (fL : Addr) (fdL : FuncData), PySem.W.findCls K (.ref L) (.type "type") "__init__" = some (.val (.ref fL)) ∧ PySem.W.keepIn K (.ref fL) = true ∧ FnOk P w K mg base CX0 2 fL fdL ["self", "field"] (sp_lot K) ∧ Binds K fdL ["self", "field"] []
/-- an error with one field -/
structure ErrF (P : Program) (w : World) (K : PySem.W.Frag) (mg : Str → Option Value) (base : Heap) (x fld : Str) (C : Addr) : Prop where
  g : mg x = some (.ref C)
  T : OexC K C
  R : ExR K C
  nf : PySem.W.findIn K (.ref C) fld = some none
  ex : ∃ (fI : Addr) (fdI : FuncData), PySem.W.findIn K (.ref C) "__init__" = some (some (.ref fI)) ∧ PySem.W.typeIn K (.ref fI) = some (.type "function") ∧ FnOk P w K mg base CX0 3 fI fdI ["self", fld] (sp_init K fld) ∧ Binds K fdI ["self", fld] []
/-- an error without a field -/
structure Err0 (P : Program) (w : World) (K : PySem.W.Frag) (mg : Str → Option Value) (base : Heap) (x : Str) (C : Addr) : Prop where
  g : mg x = some (.ref C)
  T : OexC K C
  R : ExR K C
  ex : ∃ (fI : Addr) (fdI : FuncData), PySem.W.findIn K (.ref C) "__init__" = some (some (.ref fI)) ∧ PySem.W.typeIn K (.ref fI) = some (.type "function") ∧ FnOk P w K mg base CX0 1 fI fdI ["self"] (sp_init0 K) ∧ Binds K fdI ["self"] []
section
variable {X : Cx} {x fld : Str} {C : Addr} {e : Expr} {te : TE} {p pos kpos : Pos}
theorem pe_new (h : ErrF X.prog X.w X.K X.mg X.base x fld C) (hr : Room 4 X.A) (he : PE X e te) (hg : Gl X x := by rfl) (hdb : (x == ("__debug__" : Str)) = false := by decide)
    (hs : starEach [e] X.env = (false, eval e X.env) :: starEach [] X.env := by rfl) (hpl : (backTo pos (starEach [] X.env)).any (·.1) = false := by rfl) :
    PE X (.Call (.Name x p) [e] [] pos) (tExc C (sp_init X.K fld) [] (tCons te tNil)) := by
  obtain ⟨fI, fdI, iC, tI, F, b⟩ := h.ex
  exact pe_exc h.T iC tI F hr b .nil pass0 hg h.g (pa_cons he pa_nil hs) hdb hs hpl
theorem pe_new0 (h : Err0 X.prog X.w X.K X.mg X.base x C) (hr : Room 2 X.A) (hg : Gl X x := by rfl) (hdb : (x == ("__debug__" : Str)) = false := by decide) :
    PE X (.Call (.Name x p) [] [] pos) (tExc C (sp_init0 X.K) [] tNil) := by
  obtain ⟨fI, fdI, iC, tI, F, b⟩ := h.ex
  exact pe_exc0 h.T iC tI F hr b .nil pass0 hg h.g hdb
end
end
section
variable {P : Program} {w : World} {K : PySem.W.Frag} {mg : Str → Option Value} {base : Heap} {f : Addr} {fd : FuncData} {La : Addr}
theorem ok_Overlap (F : FnM K "Overlap.__init__" s_Overlap___init__ f fd) (L : LotC P w K mg base La) : FnOk P w K mg base CX0 3 f fd ["self", "kind"] (sp_init K "kind") := by
  obtain ⟨fL, fdL, kv, hk, FL, bL⟩ := L.ex
  refine F.ok sc_Overlap___init__ (fun vs H Q E h => ?_) (fun cdv A outer s H vs Q E hr h => ?_)
  · obtain ⟨a, C, v, rfl, _⟩ := h
    rfl
  · obtain ⟨a, C, v, rfl, T, nf, ha, hv, k⟩ := h
    refine ⟨_, PSs.nox (pss_cons (ps_expr (pe_clsfn (by rfl) L.g L.rd kv hk FL hr bL .nil pass0 (pa_cons (pv 0) (pa_cons (pv 1) pa_nil)))) (pss_one (ps_ost (pv 0) (pv 1)))), ?_⟩
    exact ⟨_, rfl, _, rfl, a, C, v, rfl, T, ha, hv, _, rfl, _, rfl, a, C, rfl, T, nf, .inl ⟨ha, fun dx hd ne => k dx hd ne⟩⟩
end
section
variable {X : Cx} {x fld : Str} {C : Addr} {e : Expr} {te : TE} {p pos kpos : Pos}
/-- raise x(e) -/
theorem pm_new (h : ErrF X.prog X.w X.K X.mg X.base x fld C) (hr : Room 4 X.A) (he : PE X e te) (hg : Gl X x := by rfl) (hdb : (x == ("__debug__" : Str)) = false := by decide)
    (hs : starEach [e] X.env = (false, eval e X.env) :: starEach [] X.env := by rfl) (hpl : (backTo pos (starEach [] X.env)).any (·.1) = false := by rfl) :
    PMk X (.Call (.Name x p) [e] [] pos) (tMkO C (sp_init X.K fld) [] (tCons te tNil)) := by
  obtain ⟨fI, fdI, iC, tI, F, b⟩ := h.ex
  exact pmk_oex h.T iC tI F hr b .nil pass0 hg h.g (pa_cons he pa_nil hs) hdb hs hpl
/-- what a raise of it comes to -/
theorem mko_of {K : PySem.W.Frag} {σ : L2.St} {H : Hp} {te : TE} {Q : XK} {v : V} {H1 : Hp} (T : OexC K C) (nf : PySem.W.findIn K (.ref C) fld = some none) (ht : ∀ R : VK, R v H1 → te σ H R) (hv : Fld H1 v)
    (k : ∀ (d : Addr) (H' : Hp), H1 d = none → (∀ c o, H1 c = some o → H' c = some o) → H' d = some (.xd [(fld, v)]) → Q (.ref C) (some d) H') : tMkO C (sp_init K fld) [] (tCons te tNil) σ H Q := by
  refine ht _ ⟨(by show 1 ≤ 1000; decide), fun a ha => ⟨a, C, v, rfl, T, nf, upd_same, ?_, fun dx hd ne => ⟨rfl, dx, [(fld, v)], upd_same, ?_, ?_, ?_⟩⟩⟩
  · exact hv.mono fun b o e _ => by rw [upd_ne (ne_of_none e ha)]; exact e
  · rw [upd_ne ne]
    exact upd_same
  · rw [upd_ne ne] at hd
    exact hd
  · have hd1 : H1 dx = none := by rw [upd_ne ne] at hd; exact hd
    refine k dx _ hd1 (fun c o e => ?_) upd_same
    have n1 := ne_of_none e ha
    have n2 := ne_of_none e hd1
    rw [upd_ne n2, del_ne n1, upd_ne n1, upd_ne n2, upd_ne n1]
    exact e
end
end Lw
/-! ## Tr10 -/
set_option Elab.async false
set_option linter.all false
set_option maxRecDepth 100000
set_option maxHeartbeats 4000000
/-! Tr10: enumerate of a list or a tuple; own objects: attributes, made, with raise; own work. -/
namespace PySem
open PySem.Spec PyProof.Rows
set_option maxHeartbeats 1000000 in
theorem meets_enumerate_newB1 {v : Value} {o : Obj} {H : Heap → Prop} (B : Begins v o H) :
    Meets (Builtin.«enumerate.__new__» ⟨[.type "enumerate", v], []⟩) (fun _ R s => H s.heap ∧
      R (.ok (.ret (.ref (s.heap.push o).objs.size))) { s with heap := (s.heap.push o).push { cls := .type "enumerate", data := .fields #[.none, .bool false, .ref s.heap.objs.size, rawInt 0, .none, .none] } }) :=
  .of_wp fun prog w A R s h => by
    obtain ⟨hp, g, d, tk, os⟩ := s; obtain ⟨h1, h⟩ := h
    have hsub := sub_enumerate
    have q1 : ∀ {A' : Around} {E : Value → Shared → Prop} {Q : Value → Shared → Prop}, Q (.ref hp.objs.size) ⟨hp.push o, g, d, tk, os⟩ → wpAny (model prog w) A' (pyIter v) Q E ⟨hp, g, d, tk, os⟩ :=
      fun q => B.iter prog w _ _ ⟨hp, g, d, tk, os⟩ _ h1 q
    wp_walk using q1
    refine wpAny_stack_any fun st => wpAny_pure ?_
    split
    · rename_i c _ _ _ _ _
      cases (c == Value.type "enumerate")
      · wp_walk using q1
        exact ⟨_, rfl, h⟩
      · wp_walk using q1
        exact ⟨_, rfl, h⟩
    · wp_walk using q1
      exact ⟨_, rfl, h⟩
theorem enum_begins1 {prog : Program} {w : World} {A : Around} {E : Value → Shared → Prop} {s : Shared} {v : Value} {o : Obj} {H : Heap → Prop} {Q : Value → Shared → Prop} (B : Begins v o H) (h1 : H s.heap)
    (h : ∀ h', IsEnum h' (s.heap.objs.size + 1) s.heap.objs.size 0 .none → h'.get? s.heap.objs.size = some o → h'.objs.size = s.heap.objs.size + 2 →
      (∀ b o, s.heap.get? b = some o → h'.get? b = some o) → Q (.ref (s.heap.objs.size + 1)) { s with heap := h' }) :
    wpAny (model prog w) A (call (.type "enumerate") [v]) Q E s := by
  refine callType_new F.called_enumerate (by decide) (F.typeCall_enumerate_1 _) (F.newCall_enumerate_1 _) (fun obj => F.args_object_init_2 obj _) F.entry_enumerate_new
    (meets_enumerate_newB1 B) ⟨h1, ?_⟩
  have hz : (s.heap.push o).objs.size = s.heap.objs.size + 1 := Heap.size_push ..
  show _ ∧ _
  rw [hz]
  have he : IsEnum ((s.heap.push o).push { cls := .type "enumerate", data := .fields #[.none, .bool false, .ref s.heap.objs.size, rawInt 0, .none, .none] }) (s.heap.objs.size + 1) s.heap.objs.size 0 .none := by
    have := Heap.get?_push_size (s.heap.push o) (o := { cls := .type "enumerate", data := .fields #[.none, .bool false, .ref s.heap.objs.size, rawInt 0, .none, .none] }) rfl
    rw [hz] at this; exact this
  refine ⟨⟨_, he, rfl⟩, h _ he (Heap.get?_push_of_some _ (Heap.get?_push_size _ B.free)) (by rw [Heap.size_push, hz]) fun b o x => Heap.get?_push_of_some _ (Heap.get?_push_of_some _ x)⟩
end PySem
namespace L2
open PySem PySem.Spec PyProof.Rows
/-- the tuple at a, each item in a new pair -/
def IteT (K : PySem.W.Frag) (a : Addr) : It :=
  ⟨fun i H => ∃ (xs : List V) (x : V), SqT K H a xs ∧ xs[i]? = some x, fun i H v H' => ∃ T x, v = .ref T ∧ H T = none ∧ H' = upd H T (.tup [.int (i : Nat), x]) ∧ ∀ xs, SqT K H a xs → xs[i]? = some x, fun i H => ∃ xs : List V, SqT K H a xs ∧ xs.length = i⟩
theorem turn_enumT {P : Program} {w : World} {K : PySem.W.Frag} {elts : List Expr} {kk : Nat} {tpos : Pos} (a e it : Addr) :
    Turn P w K (.Tuple elts kk tpos) (IteT K a) [e, it] e (fun i h => (∃ old, IsEnum h e it ((i : Nat) : Int) old) ∧ h.IsTupleIter it a i ∧ e ≠ it ∧ a ≠ it ∧ e ≠ a) where
  mem := by simp
  obj := fun i h st b hb => by
    obtain ⟨⟨old, he⟩, ⟨o, ho, hc, hd⟩, _⟩ := st
    have e' : b = e ∨ b = it := by simpa using hb
    rcases e' with z | z
    · rw [z]; exact ⟨_, he, fun v q => nomatch q⟩
    · rw [z]; exact ⟨o, ho, fun v q => by rw [hd] at q; cases q⟩
  keep := fun i h h' st k => let ⟨⟨old, he⟩, hi, hne⟩ := st; ⟨⟨old, k e (by simp) _ he⟩, hi.at fun o q => k it (by simp) o q, hne⟩
  item := by
    intro X hP hw hK hc i pins s σ H E I hf st hg
    subst hP hw hK
    obtain ⟨⟨old, he⟩, hit, hne, hai, hea⟩ := st
    obtain ⟨xs, x, hq, hx⟩ := hg
    obtain ⟨its, rv, p, hz⟩ := I.tuple hq
    obtain ⟨u, hu, ru⟩ := rv.get hx
    have hel : e < s.heap.objs.size := Heap.lt_size he
    have hil : it < s.heap.objs.size := by obtain ⟨_, q, _⟩ := hit; exact Heap.lt_size q
    have D : Draws X.prog X.w X.A.in1 it [it, a] its.toArray.size (fun i v => its.toArray[i]? = some v) (fun i h => h.IsTupleIter it a i ∧ h.IsTuple a its.toArray) := Draws.tuple (show X.A.in1.handled = none from I.ok.hd hc) it a hai its.toArray
    have hi : i < its.toArray.size := by
      have := (List.getElem?_eq_some_iff.mp hu).1
      simpa using this
    refine wpAny_pyNext_enum_itemC D he (⟨hit, p⟩ : s.heap.IsTupleIter it a i ∧ s.heap.IsTuple a its.toArray) hi hne (by simp [hne, hea]) fun x' h' tk hP ho hst' hT hsz hk => ?_
    have ex : x' = u := by
      have h1 : its.toArray[i]? = some x' := hP
      have h2 : its.toArray[i]? = some u := by simpa using hu
      exact Option.some.inj (h1.symm.trans h2)
    subst ex
    refine ⟨_, rfl, wpAny_letOwnedTupleGo_enum (s := { s with heap := h', toks := tk + 1 }) ho fun h'' he' sb => ?_⟩
    have hT2 : h''.get? s.heap.objs.size = some { cls := .type "tuple", data := .seq #[.int i tk, x'] } := (sb.2 _ (Nat.ne_of_gt hel)).trans hT
    have new : ObjOk X.prog X.w (upd H s.heap.objs.size (.tup [.int (i : Nat), x])) h'' s.heap.objs.size (.tup [.int (i : Nat), x]) :=
      ⟨by show 2 ≤ sizeLine; decide, [.int i tk, x'], .cons ⟨_, rfl⟩ (.cons ru .nil), ⟨_, hT2, rfl, _, rfl⟩⟩
    have I1 : Inv X pins σ (upd H s.heap.objs.size (.tup [.int (i : Nat), x])) { s with heap := h'', toks := tk + 1 } :=
      I.turnedNew (ch := [e, it]) (fun b ob hb q => (sb.2 b (fun z => hb (by simp [z]))).trans (hk b ob (fun z => hb (by simp [z])) (fun z => hb (by simp [z])) q)) hf (Nat.le_refl _) new
    refine ⟨.ref s.heap.objs.size, _, I1, rfl, ⟨_, x, rfl, I.hok.fresh (Nat.le_refl _), rfl, fun ys hy => by rw [I.tuple_inj hy hq]; exact hx⟩, ⟨⟨x', ?_⟩, hst'.1.at fun o q => (sb.2 it (Ne.symm hne)).trans q, hne, hai, hea⟩, fun b hb => ?_⟩
    · have e1 : ((i + 1 : Nat) : Int) = (i : Int) + 1 := by omega
      rw [e1]; exact he'
    · have hb' : b < s.heap.objs.size := by
        have e' : b = e ∨ b = it := by simpa using hb
        rcases e' with z | z
        · rw [z]; exact hel
        · rw [z]; exact hil
      rw [upd_ne (Nat.ne_of_lt hb')]
      exact (hf b hb).1
  done := by
    intro X hP hw hK hc i pins s σ H E I hf st hg
    subst hP hw hK
    obtain ⟨⟨old, he⟩, hit, hne, hai, hea⟩ := st
    obtain ⟨xs, hq, hx⟩ := hg
    obtain ⟨its, rv, p, hz⟩ := I.tuple hq
    obtain ⟨f0, f1, f2, f3, f4, f5⟩ := hf it (by simp)
    have hl := rv.length
    have D : Draws X.prog X.w X.A.in1 it [it, a] its.toArray.size (fun i v => its.toArray[i]? = some v) (fun i h => h.IsTupleIter it a i ∧ h.IsTuple a its.toArray) := Draws.tuple (show X.A.in1.handled = none from I.ok.hd hc) it a hai its.toArray
    have ei : i = its.toArray.size := by simp; omega
    subst ei
    exact wpAny_pyNext_enum_endD D he (⟨hit, p⟩ : s.heap.IsTupleIter it a _ ∧ s.heap.IsTuple a its.toArray) fun h' eb => ⟨rfl, I.turned (t' := s.toks) (fun b o hb q => eb b o hb q) f0 f1 f3 f4 f5⟩
  self := fun A i s Q E st h => let ⟨⟨_, he⟩, _⟩ := st; wpAny_pyIter_enum he h
theorem walk_enumT {K : PySem.W.Frag} {a : Addr} {xs : List V} : Walk (IteT K a) xs.length (fun H => SqT K H a xs) (YPair (fun i => some (.int (i : Nat))) (fun i => xs[i]?)) := by
  refine ⟨fun i _ hi q => ⟨xs, xs[i], q, by simp [hi]⟩, fun _ q => ⟨xs, q, rfl⟩, fun i H v H' _ q y => ?_⟩
  obtain ⟨T, x, h1, h2, h3, h4⟩ := y
  exact ⟨T, .int (i : Nat), x, h1, h2, h3, rfl, h4 xs q⟩
/-- enumerate of a list or of a tuple -/
def iEnumQ (K : PySem.W.Frag) (ta : TA) : TI := fun σ H R => ta σ H fun vs H1 => ∃ a xs, vs = [.ref a] ∧ ((SqL K H1 a xs ∧ R (Ite K a) H1) ∨ (SqT K H1 a xs ∧ R (IteT K a) H1))
theorem pi_enumQ {X : Cx} {e : Expr} {ta : TA} {p pos tpos : Pos} {elts : List Expr} {kk : Nat} (hg : Gl X "enumerate") (hm : X.mg "enumerate" = none) (ha : PA X [e] ta) (hs : starEach [e] X.env = [(false, eval e X.env)] := by rfl) :
    PI X (.Tuple elts kk tpos) (.Call (.Name "enumerate" p) [e] [] pos) (iEnumQ X.K ta) := by
  refine ⟨fun pins s σ H R I h => ?_⟩
  refine Call_ (ld_blt I hg hm boot_enumerate (PyProof.Rows.callWith_type1 (thn (ha.run pos pins s σ H _ I h) fun us s1 ⟨vs, H1, I1, r1, q1⟩ => ?_) hs rfl))
  obtain ⟨a, xs, ex, q⟩ := q1
  subst ex
  cases r1 with
  | cons r rr =>
    cases rr
    cases r
    have hle : ∀ {b}, b ∈ [s1.heap.objs.size + 1, s1.heap.objs.size] → s1.heap.objs.size ≤ b := fun {b} hb => by
      have e' : b = s1.heap.objs.size + 1 ∨ b = s1.heap.objs.size := by simpa using hb
      rcases e' with z | z
      · rw [z]; exact Nat.le_add_right _ _
      · rw [z]; exact Nat.le_refl _
    rcases q with ⟨hq, q⟩ | ⟨hq, q⟩
    · obtain ⟨its, rv, p', hz⟩ := I1.list hq
      refine call_enumerate_list p'.isList fun h' he hit hsz hk => wpAny_pyIter_enum he ?_
      have I2 : Inv X pins σ H1 { s1 with heap := h' } := I1.kept (t' := s1.toks) hk
      exact ⟨s1.heap.objs.size + 1, [s1.heap.objs.size + 1, s1.heap.objs.size], _, _, H1, rfl, I2, turn_enum a (s1.heap.objs.size + 1) s1.heap.objs.size, ⟨⟨.none, he⟩, hit, Nat.succ_ne_self _⟩, fun b hb => I1.fpOk (hle hb) (I1.hok.fresh (hle hb)), q⟩
    · obtain ⟨its, rv, p', hz⟩ := I1.tuple hq
      have hal : a < s1.heap.objs.size := by obtain ⟨o, ho, _⟩ := (show s1.heap.IsTuple a its.toArray from p'); exact Heap.lt_size ho
      refine enum_begins1 (begins_tuple a its.toArray) p' fun h' he hit hsz hk => wpAny_pyIter_enum he ?_
      have I2 : Inv X pins σ H1 { s1 with heap := h' } := I1.kept (t' := s1.toks) hk
      exact ⟨s1.heap.objs.size + 1, [s1.heap.objs.size + 1, s1.heap.objs.size], _, _, H1, rfl, I2, turn_enumT a (s1.heap.objs.size + 1) s1.heap.objs.size, ⟨⟨.none, he⟩, ⟨_, hit, rfl, rfl⟩, Nat.succ_ne_self _, Nat.ne_of_lt hal, Ne.symm (Nat.ne_of_lt (Nat.lt_succ_of_lt hal))⟩, fun b hb => I1.fpOk (hle hb) (I1.hok.fresh (hle hb)), q⟩
end L2
/-! ## Tr11 -/
set_option Elab.async false
set_option linter.all false
set_option maxRecDepth 100000
set_option maxHeartbeats 4000000
/-! Tr11: enumerate, own attributes, raise, __init__ and making told of trees; own work. -/
namespace Tr
open PySem PySem.Spec PyProof.Rows L2 _root_.Sl Lw
section
variable {K : PySem.W.Frag} {p : Option Addr} {te : TE} {We : WE} {Xw : WX}
def enumT : Nat → List T → List T
  | _, [] => []
  | i, x :: xs => .tup [.int (i : Nat), x] :: enumT (i + 1) xs
theorem enumT_len : ∀ (i : Nat) (xs : List T), (enumT i xs).length = xs.length
  | _, [] => rfl
  | i, x :: xs => by
    show (enumT (i + 1) xs).length + 1 = _
    rw [enumT_len (i + 1) xs]; rfl
theorem enumT_at : ∀ {j i : Nat} {xs : List T} {x : T}, xs[i]? = some x → (enumT j xs)[i]? = some (.tup [.int ((j + i : Nat)), x])
  | _, _, [], _, e => by simp at e
  | j, 0, _ :: _, x, e => by
    simp at e
    subst e
    rfl
  | j, i + 1, _ :: xs, x, e => by
    show (enumT (j + 1) xs)[i]? = _
    rw [enumT_at (xs := xs) (by simpa using e)]
    congr 5
    omega
def iEnumT (We : WE) : WA := fun E n k => We E n fun t m => opt (seqT t) fun ts => k (enumT 0 ts) m
theorem ei_enum (h : ET K p te We) : EI K p (iEnumQ K (tCons te tNil)) (iEnumT We) := ⟨fun G ad E n σ H R w rl q => by
  refine h.ev G ad E n σ H _ w rl (h.mo _ _ _ _ (fun t m q v H1 k1 w1 r1 => ?_) q)
  obtain ⟨ts, e, q⟩ := opt_some q
  cases t <;> try cases e
  · cases r1 with
    | lst ha rs =>
      rename_i a vs
      obtain ⟨na, ha⟩ := hid_to ha
      refine ⟨a, vs, rfl, .inl ⟨SqL.of ha, q _ H1 k1 w1 ⟨?_⟩⟩⟩
      rw [enumT_len, ← rs.length]
      refine walk_enum.mono (fun H2 k2 => SqL.of (k2 _ _ (fun z => na (w1.hd _ z)) ha)) fun i H2 x H3 hi k2 ⟨T, y, z, ex, hT, e4, e5, e6⟩ => ?_
      subst ex e4
      refine ⟨Kp.new hT, fun G' m3 w3 => ⟨w3.new hT, fun hg => ?_⟩⟩
      obtain ⟨t2, et2, rt2⟩ := rs.back e6
      cases e5
      refine ⟨_, enumT_at et2, ?_⟩
      rw [Nat.zero_add]
      exact Tr.R.newT w3 hT (.cons (.int _) (.cons (rt2.mono (k2.hid2 w1.hd hg)) .nil))
  · cases r1 with
    | tup ha rs =>
      rename_i a vs
      refine ⟨a, vs, rfl, .inr ⟨sqt_same hid_in ha, q _ H1 k1 w1 ⟨?_⟩⟩⟩
      rw [enumT_len, ← rs.length]
      refine walk_enumT.mono (fun H2 k2 => sqt_same hid_in (sqt_same (k2.hid w1.hd) ha)) fun i H2 x H3 hi k2 ⟨T, y, z, ex, hT, e4, e5, e6⟩ => ?_
      subst ex e4
      refine ⟨Kp.new hT, fun G' m3 w3 => ⟨w3.new hT, fun hg => ?_⟩⟩
      obtain ⟨t2, et2, rt2⟩ := rs.back e6
      cases e5
      refine ⟨_, enumT_at et2, ?_⟩
      rw [Nat.zero_add]
      exact Tr.R.newT w3 hT (.cons (.int _) (.cons (rt2.mono (k2.hid2 w1.hd hg)) .nil)), fun E n k k' hk q => h.mo _ _ _ _ (fun t m q => opt_mono (fun ts q => hk _ _ q) q) q⟩
/-! ### attributes -/
def asO (C : Addr) : T → Option (List (Str × T)) | .obj D fs => if D = C then some fs else none | _ => none
theorem asO_eq {C : Addr} {t : T} {fs : List (Str × T)} (h : asO C t = some fs) : t = .obj C fs := by
  cases t <;> try cases h
  rename_i D gs
  have h' : (if D = C then some gs else none) = some fs := h
  split at h'
  · rename_i e
    cases h'
    rw [e]
  · cases h'
def wFldC (We : WE) (C : Addr) (f : Str) : WE := fun E n k => We E n fun t m => opt (asO C t) fun fs => opt (fs.lookup f) fun u => k u m
theorem et_fld {C : Addr} {f : Str} (hc : Cls K C) (hn : NoAttr K C f) (h : EX K p te We) : ET K p (tFld K te f) (wFldC We C f) := ⟨fun G ad E n σ H Q w rl q => by
  refine h.ev G ad E n σ H _ w rl (h.mo _ _ _ _ (fun t m q v H1 k1 w1 r1 => ?_) q)
  obtain ⟨fs, e, q1⟩ := opt_some q
  clear q
  obtain rfl := asO_eq e
  obtain ⟨u, eu, q⟩ := opt_some q1
  rcases r1 with r1 | ⟨a, ev, _, c⟩
  · cases r1 with
    | obj ha rf =>
      obtain ⟨x, ex, rx⟩ := rf.look eu
      exact ⟨_, _, _, _, x, rfl, hid_in _ _ ha, hc, hn, ex, q _ H1 k1 w1 rx⟩
  · subst ev
    cases c with
    | obj ha rf _ =>
      obtain ⟨x, ex, rx⟩ := rf.look eu
      exact ⟨_, _, _, _, x, rfl, ha, hc, hn, ex, q _ H1 k1 w1 rx⟩, fun E n k k' hk q => h.mo _ _ _ _ (fun t m q => opt_mono (fun fs q => opt_mono (fun u q => hk _ _ q) q) q) q⟩
/-- self.f = e -/
def putO (f : Str) (t : T) : List (Str × T) → List (Str × T)
  | [] => [(f, t)]
  | (g, x) :: r => if g = f then (g, t) :: r else (g, x) :: putO f t r
theorem Rf.put {H : Hp} {f : Str} {t : T} {v : V} (h : R K p H t v) : ∀ {fs : List (Str × T)} {ws : List (Str × V)}, Rf K p H fs ws → ws.length = fs.length → Rf K p H (putO f t fs) (putF f v ws) ∧ (putF f v ws).length = (putO f t fs).length
  | [], [], _, _ => ⟨.cons h .nil, rfl⟩
  | [], _ :: _, _, l => by cases l
  | (g, x) :: r, _, .cons (vs := vs) h1 h2, l => by
    unfold putO putF
    by_cases e : g = f
    · rw [if_pos e, if_pos e]
      exact ⟨.cons h h2, by simpa using l⟩
    · rw [if_neg e, if_neg e]
      have := Rf.put (f := f) h h2 (by simpa using l)
      exact ⟨.cons h1 this.1, by rw [List.length_cons, List.length_cons, this.2]⟩
def owO (E : En) (i : Nat) (C : Addr) : Option (List (Str × T)) := match E[i]? with | some (.ow (.obj D fs)) => if D = C then some fs else none | _ => none
theorem owO_eq {E : En} {i : Nat} {C : Addr} {fs : List (Str × T)} (h : owO E i C = some fs) : E[i]? = some (.ow (.obj C fs)) := by
  unfold owO at h
  split at h
  · rename_i D gs e
    split at h
    · rename_i z
      cases h
      rw [e, z]
    · cases h
  · cases h
def sFldT (i : Nat) (C : Addr) (f : Str) (We : WE) : WS := fun E n D => We E n fun y m => opt (owO E i C) fun fs => if fs.length < 1000 then D.nx (E.set i (.ow (.obj C (putO f y fs)))) m else False
theorem es_fld (i : Nat) {C : Addr} {f : Str} (hc : Cls K C) (hn : NoAttr K C f) (he : ET K p te We) : ES K p Xw (sFld K (tVar i) te f) (sFldT i C f We) := ⟨fun G0 H0 rf E n σ H D D' ⟨ad, r⟩ e q => by
  refine he.ev (GG G0 ad E) ad E n σ H _ r.w r.r (he.mo _ _ _ _ (fun y m q v H1 k1 w1 r1 => ?_) q)
  obtain ⟨fs, ex, q⟩ := opt_some q
  have ex := owO_eq ex
  obtain ⟨hz, q⟩ := ite_get q
  obtain ⟨e1, g1, n1, c1⟩ := r.r.ow i _ ex
  cases c1 with
  | @obj _ dx ws _ h s l =>
    have h1 := k1 _ _ n1 h
    have s1 := s.mono (k1.hid r.w.hd)
    obtain ⟨p1, p2⟩ := Rf.put (f := f) r1 s1 l
    refine ⟨_, e1, _, C, dx, ws, rfl, h1, hc, hn, by rw [l]; exact hz, ?_⟩
    exact e.nx _ m σ _ q ⟨ad, (r.kpS k1 w1).mutate ex (.obj upd_same p1 p2) (.inl ⟨_, _, rfl⟩)⟩, fun E n D D' l q => he.mo _ _ _ _ (fun y m q => opt_mono (fun fs q => ite_mono (l.nx _ _) q) q) q⟩
/-! ### raise -/
theorem fld_flat {H : Hp} {t : T} (f : flatT t = true) : Fld H (toV t) := by
  cases t <;> first | exact .non | exact .bl _ | exact .int _ | exact .str _ | cases f
def sRaise (C : Addr) (fld : Str) (We : WE) : WS := fun E n D => We E n fun t m => if flatT t = true then D.ex E C [(fld, t)] m else False
theorem es_raise {C : Addr} {fld : Str} (T : OexC K C) (nf : PySem.W.findIn K (.ref C) fld = some none) (he : ET K p te We) :
    ES K p Xw (fun _ σ H => tMkO C (sp_init K fld) [] (tCons te tNil) σ H fun cls d H' => Xw cls d σ H') (sRaise C fld We) := ⟨fun G0 H0 rf E n σ H D D' ⟨ad, r⟩ e q => by
  refine he.ev (GG G0 ad E) ad E n σ H _ r.w r.r (he.mo _ _ _ _ (fun t m q v H1 k1 w1 r1 => ?_) q)
  obtain ⟨hf, q⟩ := ite_get q
  obtain ⟨ev, _⟩ := flat_toV (G := GG G0 ad E) hf (.inl r1)
  subst ev
  suffices h : tMkO C (sp_init K fld) [] (tCons (fun _ _ R => R (toV t) H1) tNil) σ H1 (fun cls d H' => Xw cls d σ H') from h
  refine mko_of T nf (fun R h => h) (fld_flat hf) fun d H' hd k2 hx => ?_
  have k3 : Kp p H1 H' := .of fun c o h => k2 c o h
  exact e.ex E C [(fld, t)] m σ H' d q ⟨ad, (r.kpS k1 w1).kpS k3 (w1.kp k3 fun a z => by
    obtain ⟨g, s, c, e0, rest⟩ := (w1.src a z).2
    exact ⟨g, s, c, k2 _ _ e0, rest⟩)⟩ hx, fun E n D D' l q => he.mo _ _ _ _ (fun t m q => ite_mono (l.ex _ _ _ _) q) q⟩
end
/-! ### __init__ told of trees -/
abbrev WI := List T → Nat → (List (Str × T) → Nat → Prop) → (Addr → List (Str × T) → Nat → Prop) → Prop
def spI (K : PySem.W.Frag) (C : Addr) (W : WI) : Sp := fun vs H Q E => ∃ (p : Option Addr) (G : Addr → Prop) (ts : List T) (n : Nat) (x dx : Addr) (us : List V), vs = .ref x :: us ∧ H x = some (.ins C dx []) ∧ ¬ G x ∧ Wld p G n H ∧ Rs K p (hid (GA G x) H) ts us ∧
  W ts n (fun fs m => ∀ H' dx' ws, Kp p (del H x) H' → H' x = some (.ins C dx' ws) → Rf K p (hid (GA G x) H') fs ws → Wld p G m H' → Q .non H')
    (fun D fs m => ∀ d H', Kp p (del H x) H' → Wld p G m H' → H' d = some (.xd (toVx fs)) → E (.ref D) (some d) H')
def startO (N : List Str) (C : Addr) (ts : List T) : En := .ow (.obj C []) :: startE N.tail ts
theorem startO_rel {K : PySem.W.Frag} {p : Option Addr} {G : Addr → Prop} {n : Nat} {H : Hp} {N : List Str} {x0 : Str} {C x dx : Addr} {ts : List T} {vs : List V} (hx : H x = some (.ins C dx [])) (ng : ¬ G x) (w : Wld p G n H) (r : Rs K p (hid (GA G x) H) ts vs) :
    RelA K p G (del H x) [(GA G x, H, some x)] (fun _ => x) (startO (x0 :: N) C ts) (L2.start (x0 :: N) (.ref x :: vs)) n H := by
  have no : ∀ (i : Nat) (t : T), (startE N ts)[i]? ≠ some (.ow t) := fun i t e => by
    unfold startE at e
    by_cases h : i < (ts.map Sl.sh).length
    · rw [List.getElem?_append_left h, List.getElem?_map] at e
      obtain ⟨u, _, eu⟩ := Option.map_eq_some_iff.mp e
      cases eu
    · rw [List.getElem?_append_right (by omega), List.getElem?_replicate] at e
      split at e <;> cases e
  have no' : ∀ (i : Nat) (t : T), (startO (x0 :: N) C ts)[i]? = some (.ow t) → i = 0 ∧ t = .obj C [] := fun i t e => by
    cases i with
    | zero => cases e; exact ⟨rfl, rfl⟩
    | succ i => exact absurd (show (startE N ts)[i]? = some (.ow t) from e) (no i t)
  have eg : ∀ a, GG G (fun _ => x) (startO (x0 :: N) C ts) a → GA G x a := fun a z => z.elim .inl fun ⟨i, t, e, h⟩ => .inr h.symm
  have sm : Same (hid (GA G x) H) (hid (GG G (fun _ => x) (startO (x0 :: N) C ts)) H) := hid_anti eg
  have np : p ≠ some x := fun e => ng (w.hd _ e)
  have gk : ∀ a, G a → ∃ o, del H x a = some o := fun a g => by
    obtain ⟨o, h⟩ := w.gok a g
    have z : a ≠ x := fun z => ng (z ▸ g)
    exact ⟨o, by rw [del_ne z]; exact h⟩
  have wl : Wld p (GG G (fun _ => x) (startO (x0 :: N) C ts)) n H := ⟨fun a z => (eg a z).elim (w.gok a) fun e => ⟨_, e ▸ hx⟩, fun a z => ⟨.inl (w.hd a z), (w.src a z).2⟩⟩
  have st : L2.start (x0 :: N) (.ref x :: vs) = some (.ref x) :: L2.start N vs := by
    unfold L2.start
    simp
  refine ⟨fun b o nb hb => ?_, wl, ⟨?_, fun i t e => ?_, fun i t e => ?_⟩, gk, w.hd, fun i j t u e1 e2 _ => by rw [(no' i t e1).1, (no' j u e2).1], fun i t e => del_same, fun q hq => by
    obtain rfl := List.mem_singleton.mp hq
    exact ⟨fun _ _ _ h => h, fun i t e => .inl (.inr rfl), fun a z => .inl z, fun y hy C fs e => Option.some.inj hy⟩⟩
  · by_cases z : b = x
    · rw [z, del_same] at hb; cases hb
    · rw [del_ne z] at hb; exact hb
  · rw [st]
    unfold startO startE L2.start
    rw [List.length_cons, List.length_cons, List.length_append, List.length_append, List.length_map, List.length_map, List.length_replicate, List.length_replicate, r.length]
    rfl
  · cases i with
    | zero => cases e
    | succ i =>
      have e : (startE N ts)[i]? = some (.sh t) := e
      rw [st]
      unfold startE at e
      by_cases h : i < (ts.map Sl.sh).length
      · rw [List.getElem?_append_left h, List.getElem?_map] at e
        obtain ⟨u, eu, e2⟩ := Option.map_eq_some_iff.mp e
        cases e2
        obtain ⟨v, ev, rv⟩ := r.get eu
        refine ⟨v, ?_, rv.mono sm⟩
        show (L2.start N vs)[i]? = _
        unfold L2.start
        rw [List.getElem?_append_left (by rw [List.length_map, r.length]; simpa using h), List.getElem?_map, ev]
        rfl
      · rw [List.getElem?_append_right (by omega), List.getElem?_replicate] at e
        split at e <;> cases e
  · obtain ⟨rfl, rfl⟩ := no' i t e
    refine ⟨by rw [st]; rfl, .inr ⟨0, _, e, rfl⟩, np, .obj hx .nil rfl⟩
section
variable {P : Program} {w : World} {K : PySem.W.Frag} {mg : Str → Option Value} {base : Heap} {x qual : Str} {params : Arguments} {body : List Stmt} {scope : Scope} {dvs : List V} {kws : List (Str × V)} {f : Addr} {fd : FuncData}
/-- THE RULE for an __init__ that may raise -/
theorem okI {C : Addr} {x0 : Str} {N ps : List Str} {k : Nat} {W : WI} (F : FunD K x qual params body scope dvs kws f fd) (S : FnScope (x0 :: N) ps scope) (len : ∀ ts n k k', W ts n k k' → ts.length + 1 = ps.length)
    (hbody : ∀ (cdv : Value) (A : Around) (outer : List Env) (s : Shared) (H : Hp) (E : XK), Room k (A.deeper (envOfC qual scope s.heap.objs.size f cdv)) →
      ∃ t, PSs (cxOf (L2.CX P w) P w K mg base (x0 :: N) qual scope f cdv A outer s H E) body t ∧ ∀ p : Option Addr, ∃ (Wb : WS), ES K p (fun cls d _ H => E cls d H) t Wb ∧
        ∀ ts n kn kx, W ts n kn kx → Wb (startO (x0 :: N) C ts) n { nx := fun E' m => ∃ fs, E'[0]? = some (.ow (.obj C fs)) ∧ kn fs m, rt := fun _ _ => False, ex := fun _ D fs m => kx D fs m }) : FnOk P w K mg base (L2.CX P w) (k + 1) f fd ps (spI K C W) := by
  refine F.ok S (fun vs H Q E h => ?_) (fun cdv A outer s H vs Q E hr h => ?_)
  · obtain ⟨p, G, ts, n, x, dx, us, rfl, _, _, _, r, h⟩ := h
    rw [List.length_cons, r.length]
    exact len ts n _ _ h
  · obtain ⟨p, G, ts, n, x, dx, us, rfl, hx, ng, wl, r, h⟩ := h
    obtain ⟨t, hd, he⟩ := hbody cdv A outer s H E hr
    obtain ⟨Wb, es, hw⟩ := he p
    have lt : ∀ {ad : Nat → Addr} {E' : En}, ∀ a, G a → GG G ad E' a := fun a z => .inl z
    refine ⟨t, hd, es.ev G (del H x) [(GA G x, H, some x)] _ n _ H _ { nx := fun E' m => ∃ fs, E'[0]? = some (.ow (.obj C fs)) ∧ ∀ H' dx' ws, Kp p (del H x) H' → H' x = some (.ins C dx' ws) → Rf K p (hid (GA G x) H') fs ws → Wld p G m H' → Q .non H', rt := fun _ _ => False, ex := fun _ D fs m => ∀ d H', Kp p (del H x) H' → Wld p G m H' → H' d = some (.xd (toVx fs)) → E (.ref D) (some d) H' } ⟨_, startO_rel hx ng wl r⟩ ⟨fun E' m σ' H' q ⟨ad, rr⟩ => ?_, fun t m v H' q k' w' r' => q.elim, fun _ _ _ _ q => q.elim, fun _ _ _ _ q => q.elim, fun E' D fs m σ' H' d q ⟨ad, rr⟩ hx => ?_⟩ (hw ts n _ _ h)⟩
    · obtain ⟨fs, e0, q⟩ := q
      have ex : ad 0 = x := (rr.rf _ List.mem_cons_self).2.2.2 x rfl C fs e0
      obtain ⟨_, g1, n1, c1⟩ := rr.r.ow 0 _ e0
      rw [ex] at c1
      cases c1 with
      | @obj _ dx' ws _ h s l =>
        exact (q H' dx' ws rr.kp h (s.mono (hid_anti fun a z => z.elim .inl fun e => .inr ⟨0, _, e0, ex.trans e.symm⟩)) ⟨fun a z => rr.w.gok a (.inl z), fun a z => ⟨rr.s0 a z, (rr.w.src a z).2⟩⟩)
    · exact q d H' rr.kp ⟨fun a z => rr.w.gok a (.inl z), fun a z => ⟨rr.s0 a z, (rr.w.src a z).2⟩⟩ hx
end
end Tr
/-! ## Tr12 -/
set_option Elab.async false
set_option linter.all false
set_option maxRecDepth 100000
set_option maxHeartbeats 4000000
/-! Tr12: sorted of a list or a tuple of texts; targets of any size; own work. -/
namespace PyProof.Rows
open PySem PySem.Spec
section
variable {prog : Program} {w : World} {A : Around} {E : Value → Shared → Prop} {s : Shared}
theorem collect_tup {l : Addr} {vs : List Value} {Q : List Value → Shared → Prop} (hl : s.heap.IsTuple l vs.toArray)
    (h : Q vs { s with heap := (s.heap.push (seqObj "list" #[] 0)).update s.heap.objs.size (Obj.mapSeq (· ++ vs.toArray)) }) (hsz : vs.length ≤ sizeLine := by size_fits) :
    wpAny (model prog w) A (collect (.ref l)) Q E s := by
  obtain ⟨o, ho, hc, n, hd⟩ := id hl
  unfold collect
  refine wpAny_bind (wpAny_runValue (codeAny_builtin entry_proto_collect' ?_))
  show wpAny _ _ (do again (.builtin "list.__iadd__" ⟨[← newList [], .ref l], []⟩)) _ _ s
  refine wpAny_bind (wpAny_newList (wpAny_pure ⟨Code.quiet_builtin _ (by decide +kernel), codeAny_builtin entry_list_iadd' ?_⟩))
  show wpAny _ _ (Builtin.List.listExtendWith (.ref s.heap.objs.size) (.ref l) (.ref s.heap.objs.size)) _ _ { s with heap := s.heap.push (seqObj "list" #[] 0) }
  unfold Builtin.List.listExtendWith
  have ho' : (s.heap.push (seqObj "list" #[] 0)).get? l = some o := Heap.get?_push_of_some _ ho
  refine wpAny_bind (wpAny_typeOf (T := "tuple") ⟨o, ho', hc⟩ ?_)
  have ht : (Value.type "tuple" == Value.type "tuple") = true := by rfl
  rw [if_pos (by rw [ht]; simp)]
  refine wpAny_bind (listItems_at ho' hd ?_)
  refine wpAny_bind (listItems_at (xs := #[]) (n := 0) (Heap.get?_push_size _ rfl) rfl ?_)
  rw [if_neg (by simp)]
  refine wpAny_bind (listUpdate_at (xs := #[]) (n := 0) (Heap.get?_push_size _ rfl) rfl ?_ (Nat.zero_le _) (by show (#[] ++ vs.toArray).size ≤ sizeLine + 1; simp only [Array.size_append, List.size_toArray, List.length_nil]; omega))
  refine wpAny_pure ?_
  show wpAny (model prog w) A (do
      let o ← load s.heap.objs.size
      match o.data with
      | .seq xs _ => pure xs.toList
      | _ => unsupported "internal:collect") Q E { s with heap := (s.heap.push (seqObj "list" #[] 0)).update s.heap.objs.size (Obj.mapSeq (· ++ vs.toArray)) }
  refine wpAny_bind (wpAny_load (get?_update_seq (Heap.get?_push_size _ rfl) _) ?_)
  show wpAny _ _ (pure ((#[] : Array Value) ++ vs.toArray).toList) Q E _
  rw [show ((#[] : Array Value) ++ vs.toArray).toList = vs by simp]
  exact wpAny_pure h
theorem sorted_strsT {l : Addr} {vs : List Value} {ss : List Str} {Q : Value → Shared → Prop} (hl : s.heap.IsTuple l vs.toArray) (hS : StrsAre vs ss) (h64 : vs.length < 64)
    (h : ∀ (out : Array Value) (ss' : List Str), StrsAre out.toList ss' → ss'.Perm ss → sortedS ss' = true → Q (.ref (s.heap.objs.size + 1)) { s with heap := sortedAll s.heap vs out }) :
    wpAny (model prog w) A (call (.builtin "sorted") [.ref l]) Q E s := by
  have h0 := hS.keysOf
  have hkk : ∀ v₁ v₂ rest, vs = v₁ :: v₂ :: rest → keyKind' (v₁ :: v₂ :: rest).toArray = pure oneType' := fun v₁ v₂ rest e => keyKind_strs (by rw [← e]; exact hS)
  refine Calls.call_function_entry kind_sorted plain_sorted entry_sorted (args_sorted1 _) ?_
  unfold Builtin.«sorted»
  refine wpAny_bind (m := checkCount "sorted" 1 1 _) (wpAny_pure ?_)
  refine wpAny_bind (collect_tup hl ?_)
  refine wpAny_bind (wpAny_newList ?_)
  have hsz : ((s.heap.push (seqObj "list" #[] 0)).update s.heap.objs.size (Obj.mapSeq (· ++ vs.toArray))).objs.size = s.heap.objs.size + 1 := by
    rw [Heap.size_update, size_push']
  have hoL : (((s.heap.push (seqObj "list" #[] 0)).update s.heap.objs.size (Obj.mapSeq (· ++ vs.toArray))).push (seqObj "list" vs.toArray 0)).get? (s.heap.objs.size + 1) = some (seqObj "list" vs.toArray 0) := by
    rw [← hsz]; exact Heap.get?_push_size _ rfl
  show wpAny _ _ _ _ _ { s with heap := ((s.heap.push (seqObj "list" #[] 0)).update s.heap.objs.size (Obj.mapSeq (· ++ vs.toArray))).push (seqObj "list" vs.toArray 0) }
  rw [hsz]
  refine wpAny_bind (wpAny_holding (wpAny_call_entry slot_list_sort ⟨_, hoL, rfl⟩ entry_list_sort (list_sort_treeK strKind_oneLt hoL h0 hkk h64 fun st' hp hs => ⟨_, rfl, ?_⟩) (args_list_sort _)))
  obtain ⟨ss', h1, h2, h3⟩ := sorted_out_str hS hp hs
  exact wpAny_pure ⟨_, rfl, h _ ss' h1 h2 h3⟩
end
end PyProof.Rows
namespace L2
open PySem PySem.Spec PyProof.Rows
def rSortedST (K : PySem.W.Frag) : List V → Hp → VK → Prop := fun vs H Q => ∃ (a : Addr) (xs : List Str), vs = [V.ref a] ∧ SqT K H a (xs.map V.str) ∧ xs.length < 64 ∧
  ∀ (ys : List Str) (p : Addr), ys.Perm xs → sortedS ys = true → H p = none → Q (.ref p) (upd H p (.lst (ys.map V.str)))
section
variable {X : Cx}
theorem cr_sortedST : CallR X (.builtin "sorted") (rSortedST X.K) := by
  intro pins s σ H vs us Q I r h
  obtain ⟨a, xs, rfl, hs, h64, q⟩ := h
  obtain ⟨its, rv, hl, _⟩ := I.tuple hs
  rw [Vals.ref1 r]
  have hlen0 := rv.length
  rw [List.length_map] at hlen0
  refine PyProof.Rows.sorted_strsT hl rv.strs (by rw [← hlen0]; exact h64) fun out ys h1 h2 h3 => ?_
  obtain ⟨ep, he'⟩ := PyProof.Rows.sortedAll_at s.heap its out
  have hlen : (ys.map V.str).length ≤ sizeLine := by rw [List.length_map, h2.length_eq]; exact small64 h64
  exact ⟨.ref _, upd H (s.heap.objs.size + 1) (.lst (ys.map V.str)), I.laid (t' := s.toks) (fun _ _ => PyProof.Rows.sortedAll_old) (Nat.le_succ _) ⟨hlen, out.toList, ep, vals_of_strs h1, he'⟩, rfl, q ys _ h2 h3 (I.hok.fresh (Nat.le_succ _))⟩
def rSortedSQ (K : PySem.W.Frag) : List V → Hp → VK → Prop := fun vs H Q => rSortedS K vs H Q ∨ rSortedST K vs H Q
theorem cr_sortedSQ : CallR X (.builtin "sorted") (rSortedSQ X.K) := by
  intro pins s σ H vs us Q I r h
  rcases h with h | h
  · exact cr_sortedS pins s σ H vs us Q I r h
  · exact cr_sortedST pins s σ H vs us Q I r h
end
end L2
namespace Tr
open PySem PySem.Spec PyProof.Rows L2 _root_.Sl
section
variable {K : PySem.W.Frag} {p : Option Addr} {te : TE} {We : WE}
def wSortQ (We : WE) : WE := fun E n k => We E n fun t m => opt (seqT t) fun ts => opt (txts ts) fun xs => if xs.length < 64 then ∀ ys : List Str, ys.Perm xs → sortedS ys = true → k (.lst (ys.map .str)) m else False
theorem en_sortQ (h : EX K p te We) : EN K p (tCB (rSortedSQ K) (tCons te tNil)) (wSortQ We) := ⟨fun G ad E n σ H Q w rl q => by
  refine h.ev G ad E n σ H _ w rl (h.mo _ _ _ _ (fun t m q0 v H1 k1 w1 r1 => ?_) q)
  obtain ⟨ts, e0, q1⟩ := opt_some q0
  obtain ⟨xs, e, q2⟩ := opt_some q1
  obtain ⟨hz, q3⟩ := ite_get q2
  clear q q0 q1 q2
  cases t <;> try cases e0
  · obtain ⟨a, vs, rfl, ha, s⟩ := r1.list
    rw [txts_eq e] at s
    obtain rfl := s.ofStrs
    exact .inl ⟨a, xs, rfl, SqL.of ha, hz, fun ys l pm so hl => q3 ys pm so l _ (k1.trans (Kp.new hl)) (w1.new hl) (k1.free w w1 hl) (.lst upd_same (Rs.strs _))⟩
  · obtain ⟨a, vs, rfl, ha, s⟩ := r1.tuple
    rw [txts_eq e] at s
    obtain rfl := s.ofStrs
    exact .inr ⟨a, xs, rfl, ha, hz, fun ys l pm so hl => q3 ys pm so l _ (k1.trans (Kp.new hl)) (w1.new hl) (k1.free w w1 hl) (.lst upd_same (Rs.strs _))⟩, fun E n k k' hk q => h.mo _ _ _ _ (fun t m q => opt_mono (fun ts q => opt_mono (fun xs q => ite_mono (fun q ys pm so => hk _ _ (q ys pm so)) q) q) q) q⟩
theorem en_sortQM (h : EX K p te We) : EN K p (fun _ _ _ => True) (wSortQ We) := ⟨fun _ _ _ _ _ _ _ _ _ _ => trivial, fun E n k k' hk q => h.mo _ _ _ _ (fun t m q => opt_mono (fun ts q => opt_mono (fun xs q => ite_mono (fun q ys pm so => hk _ _ (q ys pm so)) q) q) q) q⟩
theorem eg_tup5 (i j l a b : Nat) : EG K p (gTup K 5 (gCons (gName i) (gCons (gName j) (gCons (gName l) (gCons (gName a) (gCons (gName b) gNil)))))) [i, j, l, a, b] (wgTup [i, j, l, a, b]) := eg_tup [i, j, l, a, b]
end
/-! ### {x: e} of one pair; xs[i] = e -/
section
variable {K : PySem.W.Frag} {p : Option Addr} {G : Addr → Prop} {n : Nat} {H : Hp} {te : TE} {We : WE} {ta tb : TE} {Wa Wb : WE} {Xw : WX}
def strO : T → Option Str | .str x => some x | _ => none
theorem strO_eq {t : T} {x : Str} (h : strO t = some x) : t = .str x := by
  cases t <;> cases h
  rfl
def intO : T → Option Int | .int x => some x | _ => none
theorem intO_eq {t : T} {x : Int} (h : intO t = some x) : t = .int x := by
  cases t <;> cases h
  rfl
theorem RelE.newA {ad : Nat → Addr} {E : En} {σ : L2.St} {q : Addr} {o : HO} (w : Wld p G n H) (r : RelE K p G ad E σ H) (hq : H q = none) : RelE K p (GA G q) ad E σ (upd H q o) := by
  have sm : Same (hid G H) (hid (GA G q) (upd H q o)) := (Kp.new hq).hid2 w.hd fun a z => z.elim .inl fun e => .inr (e ▸ hq)
  refine ⟨r.len, fun i t e => ?_, fun i t e => ?_⟩
  · obtain ⟨v, e1, h⟩ := r.sh i t e
    exact ⟨v, e1, h.mono sm⟩
  · obtain ⟨e1, g, n1, c⟩ := r.ow i t e
    refine ⟨e1, .inl g, n1, ?_⟩
    have up : ∀ {o' : HO}, H (ad i) = some o' → upd H q o (ad i) = some o' := fun h => by rw [upd_ne (ne_of_none h hq)]; exact h
    cases c with
    | lst h r => exact .lst (up h) (r.mono sm)
    | dic h r => exact .dic (up h) (r.mono sm)
    | obj h r l => exact .obj (up h) (r.mono sm) l
theorem Wld.newA {q : Addr} {o : HO} (w : Wld p G n H) (hq : H q = none) : Wld p (GA G q) n (upd H q o) :=
  ⟨fun a z => z.elim (fun z => (w.new (o := o) hq).gok a z) fun e => ⟨o, e ▸ upd_same⟩, fun a e => ⟨.inl (w.hd a e), ((w.new (o := o) hq).src a e).2⟩⟩
/-- {x: e} -/
def wDisp1 (Wa Wb : WE) : WE := fun E n k => Wa E n fun x m => Wb E m fun y m' => opt (strO x) fun z => k (.dic [(z, y)]) m'
theorem en_disp1 (ha : ET K p ta Wa) (hb : ET K p tb Wb) : EN K p (tDisp [(ta, tb)]) (wDisp1 Wa Wb) := ⟨fun G ad E n σ H Q w rl q c hc => by
  have w1 := w.newA (o := .dK []) hc
  have rl1 := rl.newA (o := .dK []) w hc
  refine ha.ev (GA G c) ad E n σ _ _ w1 rl1 (ha.mo _ _ _ _ (fun x m q v H2 k2 w2 r2 => ?_) q)
  refine hb.ev (GA G c) ad E m σ H2 _ w2 (rl1.kp w1.hd k2) (hb.mo _ _ _ _ (fun y m' q v' H3 k3 w3 r3 => ?_) q)
  obtain ⟨z, ez, q1⟩ := opt_some q
  clear q
  obtain rfl := strO_eq ez
  obtain rfl := r2.toStr
  have nc : p ≠ some c := w.nsrc hc
  have hc3 : H3 c = some (.dK []) := k3 _ _ nc (k2 _ _ nc upd_same)
  have kk : Kp p H H3 := ((Kp.new hc).trans k2).trans k3
  have sm : Same (hid (GA G c) H3) (hid (GA G c) (upd H3 c (.dK [(.inr z, v')]))) := fun b o hb => by
    obtain ⟨g, h⟩ := hid_to hb
    exact hid_of g (by rw [upd_ne fun e => g (.inr e)]; exact h)
  refine ⟨hc3, [(.inr z, v')], rfl, (by show 1 ≤ 15; decide), ?_⟩
  refine q1 c _ (kk.mut hc) ⟨fun a g => ?_, fun a e => ⟨w.hd a e, ?_⟩⟩ hc (.dic upd_same (.cons (r3.mono sm) .nil))
  · by_cases e : a = c
    · refine ⟨.dK [(.inr z, v')], ?_⟩
      rw [e]
      exact upd_same
    · rw [upd_ne e]
      exact w3.gok a (.inl g)
  · obtain ⟨g, s, c0, e0, rest⟩ := (w3.src a e).2
    exact ⟨g, s, c0, by rw [upd_ne fun z => nc (by rw [← z]; exact e)]; exact e0, rest⟩, fun E n k k' hk q => ha.mo _ _ _ _ (fun t m q => hb.mo _ _ _ _ (fun u m' q => opt_mono (fun z q => hk _ _ q) q) q) q⟩
/-- xs[i] = e -/
theorem Rs.setAt {Hh : Hp} {ts : List T} {vs : List V} {t : T} {v : V} (h : Rs K p Hh ts vs) (r : R K p Hh t v) (j : Nat) : Rs K p Hh (ts.set j t) (vs.set j v) := by
  induction j generalizing ts vs with
  | zero =>
    cases h with
    | nil => exact .nil
    | cons h1 h2 => exact .cons r h2
  | succ j ih =>
    cases h with
    | nil => exact .nil
    | cons h1 h2 => exact .cons h1 (ih h2)
def sLPut (i : Nat) (Wa We : WE) : WS := fun E n D => We E n fun y m => opt (owL E i) fun xs => Wa E m fun k m' => opt (intO k) fun z => opt (ixN xs.length z) fun j => D.nx (E.set i (.ow (.lst (xs.set j y)))) m'
theorem es_lput (i : Nat) (ha : ET K p ta Wa) (he : ET K p te We) : ES K p Xw (tAsg te (gSub (tVar i) ta rSetL)) (sLPut i Wa We) := ⟨fun G0 H0 rf E n σ H D D' ⟨ad, r⟩ e q => by
  refine he.ev (GG G0 ad E) ad E n σ H _ r.w r.r (he.mo _ _ _ _ (fun y m q v H1 k1 w1 r1 => ?_) q)
  obtain ⟨xs, ex, q⟩ := opt_some q
  have ex := owL_eq ex
  obtain ⟨e1, g1, n1, c1⟩ := r.r.ow i _ ex
  have rr := r.kpS k1 w1
  refine ⟨_, e1, ha.ev (GG G0 ad E) ad E m σ H1 _ w1 rr.r (ha.mo _ _ _ _ (fun k m' q0 u H2 k2 w2 r2 => ?_) q)⟩
  obtain ⟨z, ez, q1⟩ := opt_some q0
  obtain ⟨j, ej, q2⟩ := opt_some q1
  clear q q0 q1
  obtain rfl := intO_eq ez
  cases c1 with
  | @lst vs _ h s =>
    have h2 := k2 _ _ n1 (k1 _ _ n1 h)
    have s2 := (s.mono (k1.hid r.w.hd)).mono (k2.hid r.w.hd)
    refine ⟨_, _, z, j, rfl, r2.toInt, h2, by rw [s.length]; exact ej, ?_⟩
    exact e.nx _ m' σ _ q2 ⟨ad, (rr.kpS k2 w2).mutate ex (.lst upd_same (s2.setAt (r1.kp r.w.hd k2) j)) (.inr fun _ _ z => nomatch z)⟩, fun E n D D' l q => he.mo _ _ _ _ (fun y m q => opt_mono (fun xs q => ha.mo _ _ _ _ (fun k m' q => opt_mono (fun z q => opt_mono (fun j q => l.nx _ _ q) q) q) q) q) q⟩
end
/-! ### a tuple of anything == a text -/
def rEqTS (K : PySem.W.Frag) : R2 := fun x y H Q => rEqD K x y H Q ∨ ∃ (a : Addr) (xs : List V) (z : Str), x = .ref a ∧ SqT K H a xs ∧ y = .str z ∧ Q (.bl false) H
theorem op_eqTS {X : Cx} (hu : X.A.units + 64 < cLine) : OpR X (compareOp .Eq) (rEqTS X.K) := by
  intro pins s σ H x y v u Q I rx ry h
  rcases h with h | ⟨a, xs, z, rfl, hq, rfl, q⟩
  · exact op_eqD hu pins s σ H x y v u Q I rx ry h
  · obtain rfl : v = Value.ref a := rx
    obtain ⟨t, rfl⟩ := (show ∃ t, u = Value.str z t from ry)
    obtain ⟨its, rv, ht, hz⟩ := I.tuple hq
    exact SeqAt.RcAt.tuple_str z t ht (by omega) X.prog X.w _ _ ⟨.bl false, H, I, rfl, q⟩
section
variable {K : PySem.W.Frag} {p : Option Addr}
def fEqTS (x y : T) : Option T := match x, y with | .tup _, .str _ => some (.bl false) | x, y => fEq x y
theorem o_eqTS : Op2 K p (rEqTS K) fEqTS := fun G n H x y z v w Q wd r1 r2 e q => by
  unfold fEqTS at e
  split at e
  · cases e
    obtain ⟨a, vs, rfl, ha, _⟩ := r1.tuple
    exact .inr ⟨a, vs, _, rfl, ha, r2.str, q _ H (.refl _ _) wd (.bl _)⟩
  · exact .inl (o_eq G n H _ _ z v w Q wd r1 r2 e q)
end
section
variable {K : PySem.W.Frag} {p : Option Addr} {te : TE} {We : WE} {C : Addr} {f : Str}
theorem et_fldM (h : EX K p te We) : ET K p (fun _ _ _ => True) (wFldC We C f) := ⟨fun _ _ _ _ _ _ _ _ _ _ => trivial, fun E n k k' hk q => h.mo _ _ _ _ (fun t m q => opt_mono (fun fs q => opt_mono (fun u q => hk _ _ q) q) q) q⟩
end
end Tr
/-! ## NamB -/
set_option Elab.async false
set_option linter.all false
set_option maxRecDepth 100000
set_option maxHeartbeats 8000000
namespace Lw
open PySem PySem.Spec PyProof.Rows L2 Sl
section
variable {P : Program} {w : World} {K : PySem.W.Frag} {mg : Str → Option Value} {base : Heap} {f : Addr} {fd : FuncData}
def sp_name (K : PySem.W.Frag) : Sp := fun vs H Q _ => ∃ (p q : Addr) (xs : List Str) (n : Nat), vs = [.ref p, .ref q] ∧ SrcAt H p n ∧ n ≤ 99000 ∧ SqL K H q (xs.map V.str) ∧ q ≠ p ∧ xs.length ≤ 25 ∧
  ∀ (z : Str) (H' : Hp), drawn z → z ∉ xs → SrcAt H' p (n + 10) → Keep p H H' → Q (.str z) H'
abbrev nameN : List Str := ["_law_source_here", "_law_taken", "_law_size", "_law_name_here", "_law_k", "_law_sign", "_law_one"]
theorem ok_name (F : FnP K "_law_name" s_l_name [] f fd) (D : Cal P w K mg base 1 "_law_draw" [] sp_draw) (mR : mg "range" = none) : FnOk P w K mg base CX0 2 f fd ["_law_source_here", "_law_taken"] (sp_name K) := by
  refine F.ok sc_l_name (fun vs H Q E h => ?_) (fun cdv A outer s H vs Q E hr h => ?_)
  · obtain ⟨p, q, xs, n, rfl, _⟩ := h
    rfl
  · obtain ⟨p, q, xs, n, rfl, hp, hn, hq, ne, hx, k⟩ := h
    have nd := sc_l_name.nd
    refine ⟨_, PSs.nox (pss_cons (ps_set (i := 2) nd rfl (.inl rfl) (pe_ix ix_list (pe_lst (pa_cons pe_int (pa_cons pe_int (pa_cons pe_int (pa_cons pe_int (pa_cons pe_int (pa_cons pe_int (pa_cons pe_int (pa_cons pe_int (pa_cons pe_int (pa_cons pe_int (pa_cons pe_int (pa_cons pe_int (pa_cons pe_int pa_nil))))))))))))))
        (pe_cal D hr (pa_cons (pv 0) (pa_cons pe_int pa_nil))) (fun _ _ => rfl)))
      (pss_cons (ps_set (i := 3) nd rfl (.inl rfl) (pe_join pe_str (pe_lc (own := [("_law_k", 4)]) (g := gName 4) (tt := tYes) rfl nd (pi_range1 (by rfl) mR (pa_cons (pv 2) pa_nil)) (blkOk_by (N := nameN) (sc := defScope s_l_name) (by decide +kernel)) (fun _ _ _ _ _ => pg_name (i := 4) nd rfl (Or.inl rfl)) (fun _ _ _ _ _ => pts_nil)
          (fun _ _ _ _ _ => pe_ix (r := rIxS) ix_str pe_str (pe_cal D hr (pa_cons (pv 0) (pa_cons pe_int pa_nil))) (fun _ _ => rfl)))))
      (pss_cons (ps_if (pt_chain op_lt op_lt pe_int (pv 2) pe_int)
          (pss_one (ps_set (i := 3) nd rfl (.inl rfl) (pe_ix ix_list (pe_lst (pa_cons pe_str (pa_cons pe_str (pa_cons pe_str (pa_cons pe_str (pa_cons pe_str (pa_cons pe_str (pa_cons (pe_op (r := _root_.Sl.rAddS) op_add_str pe_str (pe_slice sl_str (pv 3) (po_some pe_int) po_none)) pa_nil))))))))
            (pe_cal D hr (pa_cons (pv 0) (pa_cons pe_int pa_nil))) (fun _ _ => rfl)))) pss_nil)
      (pss_cons (ps_if (pt_cmpR (r := rIn K true) op_notIn_seq (pv 3) (pv 1) (by rfl)) (pss_one (ps_ret (pv 3))) pss_nil)
      (pss_one (ps_ret (pe_ix ix_list (pe_lc (own := [("_law_one", 6)]) (g := gName 6) rfl nd (pi_list (pe_lc (own := [("_law_sign", 5)]) (g := gName 5) (tt := tYes) rfl nd (pi_str pe_str) (blkOk_by (N := nameN) (sc := defScope s_l_name) (by decide +kernel)) (fun _ _ _ _ _ => pg_name (i := 5) nd rfl (Or.inl rfl)) (fun _ _ _ _ _ => pts_nil)
            (fun _ _ _ _ _ => pe_op (r := _root_.Sl.rAddS) op_add_str pe_str (pv 5)))) (blkOk_by (N := nameN) (sc := defScope s_l_name) (by decide +kernel)) (fun _ _ _ _ _ => pg_name (i := 6) nd rfl (Or.inl rfl)) (fun _ _ _ _ _ => pts_one (pt_cmpR (r := rIn K true) op_notIn_seq (pv 6) (pv 1) (by rfl)))
            (fun _ _ _ _ _ => (pv 6))) pe_int (fun _ _ => rfl)))))))), ?_⟩
    show tSeq (tAsg (tOp (rIxL K) (tLst (tCons (tC (.int 8)) _)) (tCall sp_draw [] E0 (tCons (tVar 0) (tCons (tC (.int 13)) tNil)))) (gName 2)) _ _ [some (V.ref p), some (V.ref q), none, none, none, none, none] H
    refine asg_of ⟨(by show 13 ≤ sizeLine; decide), fun a1 ha1 => ?_⟩
    obtain ⟨po, hpo⟩ := hp.there
    have na1 : a1 ≠ p := fun e => by rw [e, hpo] at ha1; cases ha1
    refine draw_of rfl (hp.new ha1) (by omega) (by decide) (by decide +kernel) fun j1 H1 j10 j11 hp1 k1 => ?_
    obtain ⟨v1, hv1, mv1⟩ := at_in (xs := [V.int 8, .int 4, .int 5, .int 6, .int 7, .int 1, .int 2, .int 3, .int 1, .int 2, .int 3, .int 1, .int 2]) j10 j11
    refine ⟨a1, _, j1, v1, rfl, rfl, SqL.of (k1 _ _ na1 upd_same), hv1, ?_⟩
    have hi : ∃ m : Nat, v1 = .int (m : Int) ∧ 1 ≤ m ∧ m ≤ 8 := by
      simp only [List.mem_cons, List.not_mem_nil, or_false] at mv1
      rcases mv1 with h | h | h | h | h | h | h | h | h | h | h | h | h <;> subst h
      · exact ⟨8, rfl, by decide, by decide⟩
      · exact ⟨4, rfl, by decide, by decide⟩
      · exact ⟨5, rfl, by decide, by decide⟩
      · exact ⟨6, rfl, by decide, by decide⟩
      · exact ⟨7, rfl, by decide, by decide⟩
      · exact ⟨1, rfl, by decide, by decide⟩
      · exact ⟨2, rfl, by decide, by decide⟩
      · exact ⟨3, rfl, by decide, by decide⟩
      · exact ⟨1, rfl, by decide, by decide⟩
      · exact ⟨2, rfl, by decide, by decide⟩
      · exact ⟨3, rfl, by decide, by decide⟩
      · exact ⟨1, rfl, by decide, by decide⟩
      · exact ⟨2, rfl, by decide, by decide⟩
    obtain ⟨m, rfl, m1, m8⟩ := hi
    have kk1 : Keep p H H1 := (Keep.new ha1).trans k1
    clear k1 mv1 hv1
    -- the letters
    show tSeq (tAsg (tM1 _ (tC (.str _)) (tLc (iRng1 (tCons (tVar 2) tNil)) (gName 4) tYes (tOp rIxS (tC (.str alpha)) (tCall sp_draw [] E0 (tCons (tVar 0) (tCons (tC (.int 26)) tNil)))) [4])) (gName 3)) _ _ [some (V.ref p), some (V.ref q), some (V.int (m : Int)), none, none, none, none] H1
    refine asg_of ⟨⟨_, rfl⟩, _, rfl, (m : Int), rfl, by omega, by omega, fun D hD => ?_⟩
    refine lc_range (lo := 0) (n := m) (fun i H' => SrcAt H' p (n + 1 + i) ∧ Keep p H1 H' ∧ ∃ cs : List Nat, cs.length = i ∧ (∀ c ∈ cs, letB c = true) ∧ H' D = some (.lst ((cs.map oneS).map V.str))) ⟨hp1.new hD, Keep.new hD, [], rfl, fun _ h => absurd h List.not_mem_nil, upd_same⟩ ?_ ?_
    · intro i H' hi ⟨hp2, kp2, cs, lc, hc, hd⟩
      refine ⟨rfl, yes_of (iteT ?_)⟩
      refine draw_of rfl hp2 (by omega) (by decide) (by decide +kernel) fun j2 H3 j20 j21 hp3 k3 => ?_
      obtain ⟨c, hv2, mc⟩ := at_in (xs := alpha.cps.toList) j20 j21
      have nD : D ≠ p := fun e => by
        obtain ⟨po1, hpo1⟩ := hp1.there
        rw [e, hpo1] at hD
        cases hD
      refine ⟨_, j2, c, rfl, rfl, (by show 26 ≤ sizeLine; decide), hv2, _, k3 _ _ nD hd, ?_, ?_⟩
      · rw [List.length_map, List.length_map, lc, sizeLine_eq]
        omega
      · refine ⟨?_, ?_, cs ++ [c], ?_, ?_, ?_⟩
        · obtain ⟨g, sd, cc, e, z⟩ := hp3
          exact ⟨g, sd, cc, by rw [upd_ne nD.symm]; exact e, z⟩
        · intro b o nb e
          have nbD : b ≠ D := fun e2 => by rw [e2, hD] at e; cases e
          rw [upd_ne nbD]
          exact k3 _ _ nb (kp2 _ _ nb e)
        · rw [List.length_append, lc]
          rfl
        · intro d hd2
          rcases List.mem_append.mp hd2 with h1 | h1
          · exact hc d h1
          · rw [List.mem_singleton.mp h1]
            exact decide_eq_true mc
        · rw [upd_same, List.map_append, List.map_append]
          rfl
    · intro H2 ⟨hp2, kp2, cs, lc, hc, hd⟩
      refine ⟨_, D, cs.map oneS, rfl, rfl, .inl (SqL.of hd), ?_, ?_⟩
      · rw [sum_ones, lc]
        show m + (cs.map oneS).length * 0 ≤ 16777216
        omega
      rw [join_none]
      have nz : nameB ⟨cs.toArray⟩ = true := nameB_of (by show 1 ≤ cs.toArray.size; rw [List.size_toArray, lc]; exact m1) (by show cs.toArray.size ≤ 8; rw [List.size_toArray, lc]; exact m8) (by simpa using hc)
      have lz : (⟨cs.toArray⟩ : Str).length = m := by show cs.toArray.size = m; rw [List.size_toArray, lc]
      generalize (⟨cs.toArray⟩ : Str) = z at nz lz
      have kk2 := kk1.trans kp2
      clear hd hc lc kp2
      show tSeq (tIfS (tTest (tChain _ _ (tC (.int 3)) (tVar 2) (tC (.int 8)))) _ tNext) _ _ [some (V.ref p), some (V.ref q), some (V.int (m : Int)), some (V.str z), none, none, none] H2
      have hp9 := hp2.mono (show n + 1 + m ≤ n + 9 by omega)
      have rest : ∀ (z' : Str) (H3 : Hp), drawn z' → SrcAt H3 p (n + 10) → Keep p H H3 → tSeq (tIfS (tTest (tOp (rIn K true) (tVar 3) (tVar 1))) (tRet (tVar 3)) tNext)
          (tRet (tOp (rIxL K) (tLc (iList K (tLc (iStr (tC (.str alpha))) (gName 5) tYes (tOp _root_.Sl.rAddS (tC (.str "z")) (tVar 5)) [5])) (gName 6) (tTest (tOp (rIn K true) (tVar 6) (tVar 1))) (tVar 6) [6]) (tC (.int 0)))) { nx := fun _ H' => Q .non H', rt := Q } [some (V.ref p), some (V.ref q), some (V.int (m : Int)), some (V.str z'), none, none, none] H3 := by
        intro z' H3 nz' hp3 kk3
        have hq3 := kk3.seq ne hq
        refine ifs_of (test_of ⟨_, rfl, _, rfl, q, _, rfl, .inl hq3, rfl, flat_strs xs, _, rfl, ite_of (fun c => ?_) (fun _ => ?_)⟩)
        · rw [inV_str] at c
          refine ⟨_, rfl, k z' H3 nz' (fun hz => ?_) hp3 kk3⟩
          rw [decide_eq_true hz] at c
          cases c
        · refine ⟨alpha, rfl, fun D1 hD1 => ?_⟩
          refine lc_it walk_str (fun i H' => Same H3 H' ∧ H' D1 = some (.lst (((alpha.cps.toList.take i).map fun c => ("z" : Str) ++ oneS c).map V.str))) ⟨same_new hD1, upd_same⟩ (fun _ _ _ _ => trivial) ?_ ?_
          · intro i x Ha Hb hi ⟨s1, hd1⟩ ⟨e, c, hc, ex⟩
            subst e ex
            refine ⟨rfl, yes_of (iteT ?_)⟩
            refine ⟨_, rfl, ("z" : Str), oneS c, rfl, rfl, (by show 1 + 1 ≤ sizeLine; decide), _, hd1, ?_, ?_, ?_⟩
            · have hi' : i < 26 := by rw [← alpha_size]; exact hi
              rw [List.length_map, List.length_map, List.length_take, sizeLine_eq]
              omega
            · intro b o e
              rw [upd_ne (ne_of_none e hD1)]
              exact s1 _ _ e
            · have hc' : alpha.cps.toList[i]? = some c := by
                rw [Array.getElem?_toList]
                exact hc
              rw [upd_same, List.take_succ, hc', List.map_append, List.map_append]
              rfl
          · intro H4 ⟨s4, hd4⟩
            have e26 : (alpha.cps.toList.take alpha.cps.size).map (fun c => ("z" : Str) ++ oneS c) = zs := by decide +kernel
            rw [e26] at hd4
            refine ⟨D1, rfl, ⟨_, SqL.of hd4⟩, fun D2 hD2 => ?_⟩
            have hq4 : SqL K H4 q (xs.map V.str) := sq_same hq3 s4
            refine lc_list (xs := zs.map V.str) (fun i H' => Same H4 H' ∧ H' D2 = some (.lst (((zs.take i).filter fun z => decide (z ∉ xs)).map V.str))) ⟨same_new hD2, upd_same⟩ (fun i H' _ ⟨s5, _⟩ => SqL.of (s5 _ _ hd4)) ?_ ?_
            · intro i y H' hy ⟨s5, hd5⟩
              rw [List.getElem?_map] at hy
              cases ez : zs[i]? with
              | none => rw [ez] at hy; cases hy
              | some z1 =>
                rw [ez] at hy
                cases Option.some.inj hy
                refine ⟨rfl, test_of ⟨_, rfl, _, rfl, q, _, rfl, .inl (sq_same hq4 s5), rfl, flat_strs xs, _, rfl, ite_of (fun c => ?_) (fun c => ?_)⟩⟩
                · rw [inV_str] at c
                  have c' : z1 ∉ xs := fun hz => by
                    rw [decide_eq_true hz] at c
                    cases c
                  refine ⟨_, rfl, _, hd5, ?_, ?_, ?_⟩
                  · rw [List.length_map, sizeLine_eq]
                    have := List.length_filter_le (fun z => decide (z ∉ xs)) (zs.take i)
                    rw [List.length_take, zs_len] at this
                    omega
                  · intro b o e
                    rw [upd_ne (ne_of_none e hD2)]
                    exact s5 _ _ e
                  · rw [upd_same, List.take_succ, ez, List.filter_append, List.map_append]
                    show _ = some (HO.lst (_ ++ (([z1].filter fun z => decide (z ∉ xs)).map V.str)))
                    rw [List.filter_cons_of_pos (by simpa using c')]
                    rfl
                · rw [inV_str] at c
                  have c' : z1 ∈ xs := by
                    by_cases hz : z1 ∈ xs
                    · exact hz
                    · rw [decide_eq_false hz] at c
                      cases c
                  refine ⟨s5, ?_⟩
                  rw [List.take_succ, ez, List.filter_append]
                  show _ = some (HO.lst ((_ ++ ([z1].filter fun z => decide (z ∉ xs))).map V.str))
                  rw [List.filter_cons_of_neg (by simpa using c')]
                  rw [List.filter_nil, List.append_nil]
                  exact hd5
            · intro H5 ⟨s5, hd5⟩
              have e26' : zs.take (zs.map V.str).length = zs := by
                rw [List.length_map]
                exact List.take_length
              rw [e26'] at hd5
              obtain ⟨z1, hz1, hx1⟩ := one_not_in zs xs zs_nodup (by rw [zs_len]; omega)
              have hm : z1 ∈ zs.filter fun z => decide (z ∉ xs) := List.mem_filter.mpr ⟨hz1, by simpa using hx1⟩
              have hl : (0 : Int) < (((zs.filter fun z => decide (z ∉ xs)).map V.str).length : Int) := by
                have := List.length_pos_of_mem hm
                rw [List.length_map]
                omega
              obtain ⟨v, hv, mv⟩ := at_in (Int.le_refl 0) hl
              obtain ⟨z2, hz2, rfl⟩ := List.mem_map.mp mv
              obtain ⟨hz3, hz4⟩ := List.mem_filter.mp hz2
              refine ⟨D2, _, 0, _, rfl, rfl, SqL.of hd5, hv, k z2 H5 (zs_drawn z2 hz3) (by simpa using hz4) ?_ ?_⟩
              · obtain ⟨g, sd, cc, e, z⟩ := hp3
                exact ⟨g, sd, cc, s5 _ _ (s4 _ _ e), z⟩
              · exact kk3.trans (Keep.of_same (s4.trans s5))
      refine ifs_of ⟨_, rfl, 3, (m : Int), rfl, rfl, decide ((3 : Int) < m), rfl, ite_of (fun h3 => ⟨(m : Int), 8, rfl, rfl, _, rfl, ite_of (fun h8 => ?_) (fun h8 => ?_)⟩) (fun h3 => ⟨false, rfl, iteF ?_⟩)⟩
      · refine ⟨_, rfl, 1, rfl, z, rfl, (by rw [lz, sizeLine_eq]; omega), _, _, rfl, rfl, ?_, (by show 7 ≤ sizeLine; decide), fun a3 ha3 => ?_⟩
        · have := cutS_length z (some 1) none
          rw [sizeLine_eq]
          show 1 + _ ≤ _
          omega
        · obtain ⟨po2, hpo2⟩ := hp2.there
          have na3 : a3 ≠ p := fun e => by rw [e, hpo2] at ha3; cases ha3
          refine draw_of rfl (hp9.new ha3) (by omega) (by decide) (by decide +kernel) fun j3 H3 j30 j31 hp3 k3 => ?_
          obtain ⟨v3, hv3, mv3⟩ := at_in (xs := [V.str "old", .str "new", .str "do", .str "add", .str "set", .str "refuse", .str (("q" : Str) ++ cutS z (some 1) none)]) j30 j31
          refine ⟨a3, _, j3, v3, rfl, rfl, SqL.of (k3 _ _ na3 upd_same), hv3, ?_⟩
          have hz : ∃ z' : Str, v3 = .str z' ∧ drawn z' := by
            simp only [List.mem_cons, List.not_mem_nil, or_false] at mv3
            rcases mv3 with h | h | h | h | h | h | h <;> subst h
            · exact ⟨_, rfl, by decide +kernel, .inr (.inr (.inl (by decide +kernel)))⟩
            · exact ⟨_, rfl, by decide +kernel, .inr (.inr (.inl (by decide +kernel)))⟩
            · exact ⟨_, rfl, by decide +kernel, .inr (.inr (.inl (by decide +kernel)))⟩
            · exact ⟨_, rfl, by decide +kernel, .inr (.inr (.inl (by decide +kernel)))⟩
            · exact ⟨_, rfl, by decide +kernel, .inr (.inr (.inl (by decide +kernel)))⟩
            · exact ⟨_, rfl, by decide +kernel, .inr (.inr (.inl (by decide +kernel)))⟩
            · exact ⟨_, rfl, drawn_q nz (by omega)⟩
          obtain ⟨z', rfl, nz'⟩ := hz
          exact rest z' H3 nz' hp3 (kk2.trans ((Keep.new ha3).trans k3))
      · have := of_decide_eq_false h8
        exact rest z H2 ⟨nz, .inr (.inl (by omega))⟩ (hp9.mono (by omega)) kk2
      · have := of_decide_eq_false h3
        exact rest z H2 ⟨nz, .inl (by omega)⟩ (hp9.mono (by omega)) kk2
end
end Lw
/-! ## NamC -/
set_option Elab.async false
set_option linter.all false
set_option maxRecDepth 100000
set_option maxHeartbeats 8000000
namespace Lw
open PySem PySem.Spec PyProof.Rows L2 Sl
section
variable {P : Program} {w : World} {K : PySem.W.Frag} {mg : Str → Option Value} {base : Heap} {f : Addr} {fd : FuncData}
def sp_names (K : PySem.W.Frag) : Sp := fun vs H Q _ => ∃ (p : Addr) (m n : Nat), vs = [.ref p, .int (m : Int)] ∧ SrcAt H p n ∧ n ≤ 98000 ∧ m ≤ 20 ∧
  ∀ (q : Addr) (xs : List Str) (H' : Hp), xs.length = m → xs.Nodup → (∀ z ∈ xs, drawn z) → H q = none → H' q = some (.lst (xs.map V.str)) → SrcAt H' p (n + 10 * m) → Keep p H H' → Q (.ref q) H'
theorem ok_names (F : FnP K "_law_names" s_l_names [] f fd) (D : Cal P w K mg base 2 "_law_name" [] (sp_name K)) (mR : mg "range" = none) : FnOk P w K mg base CX0 3 f fd ["_law_source_here", "_law_many"] (sp_names K) := by
  refine F.ok sc_l_names (fun vs H Q E h => ?_) (fun cdv A outer s H vs Q E hr h => ?_)
  · obtain ⟨p, m, n, rfl, _⟩ := h
    rfl
  · obtain ⟨p, m, n, rfl, hp, hn, hm, k⟩ := h
    have nd := sc_l_names.nd
    refine ⟨_, PSs.nox (pss_cons (ps_set (i := 2) nd rfl (.inl rfl) (pe_lst pa_nil))
      (pss_cons (ps_for PassesOwn.never rfl (pi_range1 (by rfl) mR (pa_cons (pv 1) pa_nil)) (pg_name (i := 3) nd rfl (Or.inl rfl))
          (pss_one (ps_expr (pe_bm PySem.F.plainAttrs_list PySem.F.slot_list_append PySem.F.type_list_append mt_append (pv 2) (pa_cons (pe_cal D hr (pa_cons (pv 0) (pa_cons (pv 2) pa_nil))) pa_nil)))))
      (pss_one (ps_ret (pv 2))))), ?_⟩
    show tSeq (tAsg (tLst tNil) (gName 2)) _ _ [some (V.ref p), some (V.int (m : Int)), none, none] H
    refine asg_of ⟨Nat.zero_le _, fun q hq => ?_⟩
    obtain ⟨po, hpo⟩ := hp.there
    have nq : q ≠ p := fun e => by rw [e, hpo] at hq; cases hq
    show tSeq (tFor (iRng1 (tCons (tVar 1) tNil)) (gName 3) _) _ _ [some (V.ref p), some (V.int (m : Int)), some (V.ref q), none] _
    refine ⟨_, rfl, (m : Int), rfl, by omega, by omega, ?_⟩
    refine for_range (lo := 0) (n := m) (fun i σ H' => ∃ (y : Option V) (xs : List Str), σ = [some (V.ref p), some (V.int (m : Int)), some (V.ref q), y] ∧ xs.length = i ∧ xs.Nodup ∧ (∀ z ∈ xs, drawn z) ∧ H' q = some (.lst (xs.map V.str)) ∧ SrcAt H' p (n + 10 * i) ∧ Keep p H H')
      ⟨none, [], rfl, rfl, List.nodup_nil, fun _ h => absurd h List.not_mem_nil, upd_same, hp.new hq, Keep.new hq⟩ ?_ ?_
    · intro i σ H1 hi ⟨y, xs, e, lx, ndx, nx, hq1, hp1, k1⟩
      subst e
      refine ⟨_, rfl, .inl ⟨rfl, _, SqL.of hq1⟩, ?_⟩
      refine ⟨_, rfl, _, rfl, p, q, xs, n + 10 * i, rfl, hp1, by omega, SqL.of hq1, nq, by omega, fun z H2 nz hz hp2 k2 => ?_⟩
      refine ⟨q, _, _, rfl, rfl, k2 _ _ nq hq1, ?_, ?_⟩
      · rw [List.length_map, sizeLine_eq]
        omega
      · refine ⟨_, xs ++ [z], rfl, ?_, ?_, ?_, ?_, ?_, ?_⟩
        · rw [List.length_append, lx]
          rfl
        · refine List.nodup_append.mpr ⟨ndx, by simp, ?_⟩
          intro a ha b hb
          rw [List.mem_singleton.mp hb]
          exact fun e => hz (e ▸ ha)
        · intro a ha
          rcases List.mem_append.mp ha with h1 | h1
          · exact nx a h1
          · rw [List.mem_singleton.mp h1]
            exact nz
        · rw [upd_same, List.map_append]
          rfl
        · obtain ⟨g, sd, cc, e, z1, z2, z3, z4⟩ := hp2
          exact ⟨g, sd, cc, by rw [upd_ne nq.symm]; exact e, z1, z2, z3, by omega⟩
        · intro b o nb e
          have nbq : b ≠ q := fun e2 => by rw [e2, hq] at e; cases e
          rw [upd_ne nbq]
          exact k2 _ _ nb (k1 _ _ nb e)
    · intro σ H1 ⟨y, xs, e, lx, ndx, nx, hq1, hp1, k1⟩
      subst e
      exact ⟨_, rfl, k q xs H1 lx ndx nx hq hq1 hp1 k1⟩
end
end Lw
/-! ## SrcPick -/
set_option Elab.async false
set_option linter.all false
set_option maxRecDepth 100000
set_option maxHeartbeats 4000000
namespace Lw
open PySem PySem.Spec PyProof.Rows L2 Sl
section
variable {P : Program} {w : World} {K : PySem.W.Frag} {mg : Str → Option Value} {base : Heap} {f : Addr} {fd : FuncData}
def sp_pick (K : PySem.W.Frag) : Sp := fun vs H Q _ => ∃ (p q : Addr) (xs : List V) (n : Nat), vs = [.ref p, .ref q] ∧ SrcAt H p n ∧ n ≤ 100000 ∧ SqL K H q xs ∧ q ≠ p ∧ 0 < xs.length ∧ xs.length ≤ 100000 ∧
  ∀ (v : V) (H' : Hp), v ∈ xs → SrcAt H' p (n + 1) → Keep p H H' → Q v H'
theorem ok_pick (F : FnP K "_law_pick" s_l_pick [] f fd) (D : Cal P w K mg base 1 "_law_draw" [] sp_draw) (mLen : mg "len" = none) : FnOk P w K mg base CX0 2 f fd ["_law_source_here", "_law_things"] (sp_pick K) := by
  refine F.ok sc_l_pick (fun vs H Q E h => ?_) (fun cdv A outer s H vs Q E hr h => ?_)
  · obtain ⟨p, q, xs, n, rfl, _⟩ := h
    rfl
  · obtain ⟨p, q, xs, n, rfl, hp, hn, hq, ne, h0, h1, k⟩ := h
    refine ⟨_, PSs.nox (pss_one (ps_ret (pe_ix ix_list (pv 1) (pe_cal D hr (pa_cons (pv 0) (pa_cons (pe_callB call_len_seq (by rfl) mLen boot_len (pa_cons (pv 1) pa_nil)) pa_nil))) (fun _ _ => rfl)))), ?_⟩
    refine ⟨_, rfl, _, rfl, _, rfl, q, _, rfl, .inl hq, p, _, n, rfl, hp, hn, by omega, by omega, fun j H' j0 j1 hp' kp => ?_⟩
    have hj : j.toNat < xs.length := by omega
    exact ⟨q, xs, j, xs[j.toNat], rfl, rfl, kp.seq ne hq, atI_int j0 (List.getElem?_eq_getElem hj), k _ _ (List.getElem_mem hj) hp' kp⟩
end
end Lw
/-! ## PlanA -/
set_option Elab.async false
set_option linter.all false
set_option maxRecDepth 100000
set_option maxHeartbeats 8000000
namespace Lw
open PySem PySem.Spec PyProof.Rows L2 Sl
section
variable {P : Program} {w : World} {K : PySem.W.Frag} {mg : Str → Option Value} {base : Heap} {f : Addr} {fd : FuncData}
abbrev rLn (K : PySem.W.Frag) : List V → Hp → VK → Prop := fun vs G R => ∃ b zs, vs = [.ref b] ∧ (SqL K G b zs ∨ SqT K G b zs) ∧ R (.int zs.length) G
def natI (is : List Nat) : List V := is.map fun i => V.int ((i : Nat) : Int)
theorem erase_map {α β : Type} (g : α → β) : ∀ (ls : List α) (k : Nat), (ls.map g).eraseIdx k = (ls.eraseIdx k).map g
  | [], _ => rfl
  | _ :: _, 0 => rfl
  | x :: r, k + 1 => by
    show g x :: (r.map g).eraseIdx k = g x :: (r.eraseIdx k).map g
    rw [erase_map g r k]
theorem erase_perm {α : Type} : ∀ (ls : List α) (k : Nat) (h : k < ls.length), (ls[k] :: ls.eraseIdx k).Perm ls
  | [], _, h => absurd h (Nat.not_lt_zero _)
  | _ :: _, 0, _ => List.Perm.refl _
  | x :: r, k + 1, h => by
    have h' : k < r.length := by simpa using h
    show (r[k] :: x :: r.eraseIdx k).Perm (x :: r)
    exact (List.Perm.swap x _ _).trans (List.Perm.cons x (erase_perm r k h'))
def sp_order (K : PySem.W.Frag) : Sp := fun vs H Q _ => ∃ (p : Addr) (m n : Nat), vs = [.ref p, .int (m : Int)] ∧ SrcAt H p n ∧ n ≤ 98000 ∧ m ≤ 60 ∧
  ∀ (q : Addr) (is : List Nat) (H' : Hp), is.Perm (List.range m) → H q = none → H' q = some (.lst (natI is)) → SrcAt H' p (n + m) → Keep p H H' → Q (.ref q) H'
theorem ok_order (F : FnP K "_law_order" s_l_order [] f fd) (D : Cal P w K mg base 1 "_law_draw" [] sp_draw) (mR : mg "range" = none) (mL : mg "list" = none) (mLen : mg "len" = none) : FnOk P w K mg base CX0 2 f fd ["_law_source_here", "_law_many"] (sp_order K) := by
  refine F.ok sc_l_order (fun vs H Q E h => ?_) (fun cdv A outer s H vs Q E hr h => ?_)
  · obtain ⟨p, m, n, rfl, _⟩ := h
    rfl
  · obtain ⟨p, m, n, rfl, hp, hn, hm, k⟩ := h
    have nd := sc_l_order.nd
    refine ⟨_, PSs.nox (pss_cons (ps_set (i := 2) nd rfl (.inr rfl) (pe_listRg rfl (by rfl) mL (prg_1 (by rfl) mR (pv 1))))
      (pss_one (ps_ret (pe_lc (own := [("_law_k", 3)]) (g := gName 3) (tt := tYes) (te := tBM K "list" rPopAt (tVar 2) (tCons (tCall sp_draw [] E0 (tCons (tVar 0) (tCons (tCB (rLn K) (tCons (tVar 2) tNil)) tNil))) tNil)) rfl nd (pi_range1 (by rfl) mR (pa_cons (pv 1) pa_nil)) (blkOk_by (N := ["_law_source_here", "_law_many", "_law_left", "_law_k"]) (sc := defScope s_l_order) (by decide +kernel))
        (fun _ _ _ _ _ => pg_name (i := 3) nd rfl (Or.inl rfl)) (fun _ _ _ _ _ => pts_nil)
        (fun _ _ _ _ _ => pe_bm PySem.F.plainAttrs_list PySem.F.slot_list_pop PySem.F.type_list_pop mt_popAt (pv 2) (pa_cons (pe_cal D hr (pa_cons (pv 0) (pa_cons (pe_callB call_len_seq (by rfl) mLen boot_len (pa_cons (pv 2) pa_nil)) pa_nil))) pa_nil)))))), ?_⟩
    show tSeq (tAsg (tLstRg (tRg1 (tVar 1))) (gName 2)) _ _ [some (V.ref p), some (V.int (m : Int)), none, none] H
    refine asg_of ⟨_, rfl, (m : Int), rfl, .of_le (Int.le_refl 0) (by omega) (by decide) (by omega), fun q0 hq0 => ?_⟩
    have er : rgV 0 (m : Int) = natI (List.range m) := by
      unfold rgV natI
      rw [show ((m : Int) - 0).toNat = m by omega]
      refine List.map_congr_left fun i _ => ?_
      rw [Int.zero_add]
    rw [er]
    obtain ⟨po, hpo⟩ := hp.there
    have nq0 : q0 ≠ p := fun e => by rw [e, hpo] at hq0; cases hq0
    have hp0 := hp.new (o := .lst (natI (List.range m))) hq0
    have k0 : Keep p H (upd H q0 (.lst (natI (List.range m)))) := Keep.new hq0
    have e0 : (upd H q0 (.lst (natI (List.range m)))) q0 = some (.lst (natI (List.range m))) := upd_same
    show tRet (tLc (iRng1 (tCons (tVar 1) tNil)) (gName 3) tYes (tBM K "list" rPopAt (tVar 2) (tCons (tCall sp_draw [] E0 (tCons (tVar 0) (tCons (tCB (rLn K) (tCons (tVar 2) tNil)) tNil))) tNil)) [3]) _ [some (V.ref p), some (V.int (m : Int)), some (V.ref q0), none] _
    generalize upd H q0 (.lst (natI (List.range m))) = H1 at hp0 k0 e0
    refine ⟨_, rfl, (m : Int), rfl, by omega, by omega, fun D hD => ?_⟩
    have nDp : D ≠ p := fun e => by
      obtain ⟨o, ho⟩ := hp0.there
      rw [e, ho] at hD
      cases hD
    have nDq : D ≠ q0 := fun e => by rw [e, e0] at hD; cases hD
    have ln : ∀ is : List Nat, (natI is).length = is.length := fun is => by unfold natI; rw [List.length_map]
    refine lc_range (lo := 0) (n := m) (fun i H' => SrcAt H' p (n + i) ∧ Keep p H H' ∧ ∃ ls is : List Nat, H' q0 = some (.lst (natI ls)) ∧ H' D = some (.lst (natI is)) ∧ (is ++ ls).Perm (List.range m) ∧ is.length = i)
      ⟨hp0.new hD, k0.trans (Keep.new hD), List.range m, [], by rw [upd_ne nDq.symm]; exact e0, upd_same, List.Perm.refl _, rfl⟩ ?_ ?_
    · intro i H' hi ⟨hp1, kp, ls, is, hls, his, pm, li⟩
      have ll : ls.length = m - i := by
        have := pm.length_eq
        rw [List.length_append, List.length_range] at this
        omega
      refine ⟨rfl, yes_of (iteT ?_)⟩
      refine ⟨_, rfl, .inl ⟨rfl, _, SqL.of hls⟩, _, rfl, _, rfl, q0, _, rfl, .inl (SqL.of hls), p, _, n + i, rfl, hp1, by omega, by rw [ln]; omega, (by rw [ln, ll]; exact Int.lt_trans (show ((m - i : Nat) : Int) < 100 by omega) (by decide +kernel)), fun j H2 j0 j1 hp2 k2 => ?_⟩
      rw [ln] at j1
      have hj : j.toNat < ls.length := by omega
      have sx : seqIndex? j (natI ls).length = some j.toNat := by
        have h1 : ¬ j < 0 := by omega
        unfold seqIndex?
        rw [ln]
        dsimp only
        rw [if_neg h1, decide_eq_true j0, decide_eq_true j1]
        rfl
      refine ⟨q0, natI ls, j, j.toNat, .int ((ls[j.toNat] : Nat) : Int), rfl, rfl, k2 _ _ nq0 hls, by omega, by omega, sx, ?_, ?_⟩
      · unfold natI
        rw [List.getElem?_map, List.getElem?_eq_getElem hj]
        rfl
      · have hD2 := k2 _ _ nDp his
        refine ⟨natI is, by rw [upd_ne nDq]; exact hD2, by rw [ln, li, sizeLine_eq]; omega, ?_, ?_, ls.eraseIdx j.toNat, is ++ [ls[j.toNat]], ?_, ?_, ?_, ?_⟩
        · obtain ⟨g, sd, cc, e, z⟩ := hp2
          exact ⟨g, sd, cc, by rw [upd_ne nDp.symm, upd_ne nq0.symm]; exact e, z⟩
        · intro b o nb e
          have nbq : b ≠ q0 := fun e2 => by rw [e2, hq0] at e; cases e
          have nbD : b ≠ D := fun e2 => by
            have h1 := k0 _ _ nb e
            rw [e2, hD] at h1
            cases h1
          rw [upd_ne nbD, upd_ne nbq]
          exact k2 _ _ nb (kp _ _ nb e)
        · rw [upd_ne nDq.symm, upd_same]
          unfold natI
          rw [erase_map]
        · rw [upd_same]
          unfold natI
          rw [List.map_append]
          rfl
        · rw [List.append_assoc]
          exact (List.Perm.append_left is (erase_perm ls j.toNat hj)).trans pm
        · rw [List.length_append, li]
          rfl
    · intro H' ⟨hp1, kp, ls, is, hls, his, pm, li⟩
      have l0 : ls = [] := by
        have := pm.length_eq
        rw [List.length_append, List.length_range, li] at this
        exact List.length_eq_zero_iff.mp (by omega)
      rw [l0, List.append_nil] at pm
      have fr : H D = none := by
        cases e : H D with
        | none => rfl
        | some o => rw [k0 _ _ nDp e] at hD; cases hD
      exact k D is H' pm fr his hp1 kp
def sp_subset (K : PySem.W.Frag) : Sp := fun vs H Q _ => ∃ (p l : Addr) (xs : List V) (n : Nat), vs = [.ref p, .ref l] ∧ SrcAt H p n ∧ n ≤ 98000 ∧ SqL K H l xs ∧ l ≠ p ∧ xs.length ≤ 60 ∧
  ∀ (q : Addr) (zs : List V) (H' : Hp), zs.Sublist xs → H q = none → H' q = some (.lst zs) → SrcAt H' p (n + xs.length) → Keep p H H' → Q (.ref q) H'
theorem ok_subset (F : FnP K "_law_subset" s_l_subset [] f fd) (D : Cal P w K mg base 1 "_law_draw" [] sp_draw) : FnOk P w K mg base CX0 2 f fd ["_law_source_here", "_law_row"] (sp_subset K) := by
  refine F.ok sc_l_subset (fun vs H Q E h => ?_) (fun cdv A outer s H vs Q E hr h => ?_)
  · obtain ⟨p, l, xs, n, rfl, _⟩ := h
    rfl
  · obtain ⟨p, l, xs, n, rfl, hp, hn, hl, nl, hx, k⟩ := h
    have nd := sc_l_subset.nd
    refine ⟨_, PSs.nox (pss_one (ps_ret (pe_lc (own := [("_law_one", 2)]) (g := gName 2) rfl nd (pi_list (pv 1)) (blkOk_by (N := ["_law_source_here", "_law_row", "_law_one"]) (sc := defScope s_l_subset) (by decide +kernel))
        (fun _ _ _ _ _ => pg_name (i := 2) nd rfl (Or.inl rfl)) (fun _ _ _ _ _ => pts_one (pt_cmpR op_eq (pe_cal D hr (pa_cons (pv 0) (pa_cons pe_int pa_nil))) pe_int (nomark _))) (fun _ _ _ _ _ => pv 2)))), ?_⟩
    refine ⟨_, rfl, l, rfl, ⟨_, hl⟩, fun Dd hD => ?_⟩
    obtain ⟨po, hpo⟩ := hp.there
    have nD : Dd ≠ p := fun e => by rw [e, hpo] at hD; cases hD
    refine lc_list (K := K) (a := l) (xs := xs) (fun i H' => SrcAt H' p (n + i) ∧ Keep p H H' ∧ ∃ zs : List V, zs.Sublist (xs.take i) ∧ H' Dd = some (.lst zs)) ⟨hp.new hD, Keep.new hD, [], List.Sublist.refl _, upd_same⟩ (fun i H' _ ⟨_, kp, _⟩ => kp.seq nl hl) ?_ ?_
    · intro i y H' hy ⟨hp1, kp, zs, sz, hz⟩
      have hi : i < xs.length := (List.getElem?_eq_some_iff.mp hy).1
      refine ⟨rfl, test_of (draw_of rfl hp1 (by omega) (by decide) (by decide +kernel) fun j H2 j0 j1 hp2 k2 => ⟨rfl, _, rfl, ite_of (fun _ => ?_) (fun _ => ?_)⟩)⟩
      · have lz : zs.length ≤ 60 := by
          have h1 := sz.length_le
          rw [List.length_take] at h1
          omega
        refine ⟨_, rfl, zs, k2 _ _ nD hz, by rw [sizeLine_eq]; omega, ?_, ?_, zs ++ [y], ?_, upd_same⟩
        · obtain ⟨g, sd, cc, e, z⟩ := hp2
          exact ⟨g, sd, cc, by rw [upd_ne nD.symm]; exact e, z⟩
        · intro b o nb e
          have nbD : b ≠ Dd := fun e2 => by rw [e2, hD] at e; cases e
          rw [upd_ne nbD]
          exact k2 _ _ nb (kp _ _ nb e)
        · rw [List.take_succ, hy]
          exact List.Sublist.append sz (List.Sublist.refl _)
      · refine ⟨hp2, kp.trans k2, zs, ?_, k2 _ _ nD hz⟩
        rw [List.take_succ]
        exact sz.trans (List.sublist_append_left _ _)
    · intro H' ⟨hp1, kp, zs, sz, hz⟩
      rw [List.take_length] at sz
      exact k Dd zs H' sz hD hz hp1 kp
end
end Lw
/-! ## PlanB -/
set_option Elab.async false
set_option linter.all false
set_option maxRecDepth 100000
set_option maxHeartbeats 8000000
namespace Lw
open PySem PySem.Spec PyProof.Rows L2 Sl
section
variable {P : Program} {w : World} {K : PySem.W.Frag} {mg : Str → Option Value} {base : Heap} {f : Addr} {fd : FuncData}
def sp_some (K : PySem.W.Frag) : Sp := fun vs H Q _ => ∃ (p l : Addr) (xs : List V) (n : Nat), vs = [.ref p, .ref l] ∧ SrcAt H p n ∧ n ≤ 97000 ∧ SqL K H l xs ∧ l ≠ p ∧ 1 ≤ xs.length ∧ xs.length ≤ 60 ∧
  ∀ (q : Addr) (F zs : List V) (H' : Hp), F.Perm xs → zs.Sublist F → 1 ≤ zs.length → H q = none → H' q = some (.lst zs) → SrcAt H' p (n + xs.length + 1) → Keep p H H' → Q (.ref q) H'
theorem ok_some (F : FnP K "_law_some" s_l_some [] f fd) (D : Cal P w K mg base 1 "_law_draw" [] sp_draw) (O : Cal P w K mg base 2 "_law_order" [] (sp_order K)) (mLen : mg "len" = none) : FnOk P w K mg base CX0 3 f fd ["_law_source_here", "_law_things"] (sp_some K) := by
  refine F.ok sc_l_some (fun vs H Q E h => ?_) (fun cdv A outer s H vs Q E hr h => ?_)
  · obtain ⟨p, l, xs, n, rfl, _⟩ := h
    rfl
  · obtain ⟨p, l, xs, n, rfl, hp, hn, hl, nl, h1, hx, k⟩ := h
    have nd := sc_l_some.nd
    have hr1 := hr.mono (show 1 ≤ 2 by decide)
    refine ⟨_, PSs.nox (pss_cons (ps_setLc (i := 2) (own := [("_law_k", 3)]) (g := gName 3) (tt := tYes) (te := tOp (rIxL K) (tVar 1) (tVar 3)) rfl nd rfl rfl (sw_true rfl rfl rfl (by decide +kernel)) (pi_list (pe_cal O hr (pa_cons (pv 0) (pa_cons (pe_callB (r := rLn K) call_len_seq (by rfl) mLen boot_len (pa_cons (pv 1) pa_nil)) pa_nil))))
        (blkOk_by (N := ["_law_source_here", "_law_things", "_law_found", "_law_k"]) (sc := defScope s_l_some) (by decide +kernel)) (fun _ _ _ _ _ => pg_name (i := 3) nd rfl (Or.inl rfl)) (fun _ _ _ _ _ => pts_nil) (fun _ _ _ _ _ => pe_ix (r := rIxL K) ix_list (pv 1) (pv 3) (fun _ _ => rfl)))
      (pss_one (ps_ret (pe_slice sl_list (pv 2) po_none (po_some (pe_op op_add pe_int (pe_cal D hr1 (pa_cons (pv 0) (pa_cons (pe_callB (r := rLn K) call_len_seq (by rfl) mLen boot_len (pa_cons (pv 2) pa_nil)) pa_nil))))))))), ?_⟩
    show tSeq (tAsg (tLc (iList K (tCall (sp_order K) [] E0 (tCons (tVar 0) (tCons (tCB (rLn K) (tCons (tVar 1) tNil)) tNil)))) (gName 3) tYes (tOp (rIxL K) (tVar 1) (tVar 3)) [3]) (gName 2)) _ _ [some (V.ref p), some (V.ref l), none, none] H
    refine asg_of ⟨_, rfl, _, rfl, l, xs, rfl, .inl hl, p, xs.length, n, rfl, hp, by omega, by omega, fun q is H1 pm hq hqe hp1 kp1 => ?_⟩
    obtain ⟨po, hpo⟩ := hp.there
    refine ⟨q, rfl, ⟨_, SqL.of hqe⟩, fun Dd hD => ?_⟩
    have nD : Dd ≠ p := fun e => by
      obtain ⟨o, ho⟩ := hp1.there
      rw [e, ho] at hD
      cases hD
    have hl1 := kp1.seq nl hl
    refine lc_list (K := K) (a := q) (xs := natI is) (fun i H' => Same H1 H' ∧ H' Dd = some (.lst ((is.take i).map fun j => xs.getD j .non))) ⟨same_new hD, upd_same⟩ (fun i H' _ ⟨s2, _⟩ => SqL.of (s2 _ _ hqe)) ?_ ?_
    · intro i y H' hy ⟨s2, hz⟩
      unfold natI at hy
      rw [List.getElem?_map] at hy
      obtain ⟨j, ej, ey⟩ := Option.map_eq_some_iff.mp hy
      subst ey
      have hj : j < xs.length := List.mem_range.mp (pm.mem_iff.mp (List.mem_of_getElem? ej))
      refine ⟨rfl, yes_of (iteT ⟨_, rfl, _, rfl, l, xs, (j : Int), xs.getD j .non, rfl, rfl, sq_same hl1 s2, ?_, _, hz, ?_, ?_, ?_⟩)⟩
      · refine atI_nat ?_
        rw [List.getD_eq_getElem?_getD, List.getElem?_eq_getElem hj]
        rfl
      · rw [List.length_map, List.length_take, sizeLine_eq]
        have := pm.length_eq
        rw [List.length_range] at this
        omega
      · intro c o e
        rw [upd_ne (ne_of_none e hD)]
        exact s2 _ _ e
      · rw [upd_same, List.take_succ, ej, List.map_append]
        rfl
    · intro H2 ⟨s2, hz⟩
      have et : (is.take (natI is).length) = is := by
        unfold natI
        rw [List.length_map]
        exact List.take_length
      rw [et] at hz
      have eF : (List.range xs.length).map (fun j => xs.getD j V.non) = xs := by
        refine List.ext_getElem? fun i => ?_
        rw [List.getElem?_map]
        by_cases hi : i < xs.length
        · rw [List.getElem?_range hi, List.getElem?_eq_getElem hi]
          show some (xs.getD i V.non) = _
          rw [List.getD_eq_getElem?_getD, List.getElem?_eq_getElem hi]
          rfl
        · rw [List.getElem?_eq_none (by rw [List.length_range]; omega), List.getElem?_eq_none (by omega)]
          rfl
      have pF : (is.map fun j => xs.getD j V.non).Perm xs := by
        have := pm.map (fun j => xs.getD j V.non)
        rwa [eF] at this
      have hp2 : SrcAt H2 p (n + xs.length) := by
        obtain ⟨g, sd, cc, e, z⟩ := hp1
        exact ⟨g, sd, cc, s2 _ _ e, z⟩
      have k2 : Keep p H H2 := kp1.trans (Keep.of_same s2)
      have frD : H Dd = none := by
        cases e : H Dd with
        | none => rfl
        | some o => rw [kp1 _ _ nD e] at hD; cases hD
      have lF := pF.length_eq
      generalize (is.map fun j => xs.getD j V.non) = FF at hz pF lF
      show tRet (tSl (rSlL K) (tVar 2) tNoPart (tPart (tOp (rI0 fun i j => .int (i + j)) (tC (.int 1)) (tCall sp_draw [] E0 (tCons (tVar 0) (tCons (tCB (rLn K) (tCons (tVar 2) tNil)) tNil)))))) _ [some (V.ref p), some (V.ref l), some (V.ref Dd), none] H2
      refine ⟨_, rfl, _, rfl, _, rfl, Dd, FF, rfl, .inl (SqL.of hz), p, _, n + xs.length, rfl, hp2, by omega, by omega, Int.lt_trans (show ((FF.length : Nat) : Int) < 100 by omega) (by decide +kernel), fun j H3 j0 j1 hp3 k3 => ?_⟩
      refine ⟨1, j, rfl, rfl, 1 + j, rfl, Dd, FF, rfl, SqL.of (k3 _ _ nD hz), fun q2 hq2 => ?_⟩
      have hs : HT.sIx FF.length FF.length (some (1 + j)) = (1 + j).toNat := by
        have e : (1 + j) = (((1 + j).toNat : Nat) : Int) := by omega
        rw [e, HT.sIx_nat]
        omega
      obtain ⟨o3, ho3⟩ := hp3.there
      have nq2 : q2 ≠ p := fun e => by rw [e, ho3] at hq2; cases hq2
      have fr2 : H q2 = none := by
        cases e : H q2 with
        | none => rfl
        | some o => rw [k3 _ _ nq2 (k2 _ _ nq2 e)] at hq2; cases hq2
      refine k q2 FF _ _ pF ?_ ?_ fr2 upd_same (hp3.new hq2) ((k2.trans k3).trans (Keep.new hq2))
      · unfold cutV
        rw [HT.sIx_none, List.drop_zero]
        exact List.take_sublist _ _
      · unfold cutV
        rw [HT.sIx_none, List.drop_zero, hs, List.length_take]
        omega
end
end Lw
/-! ## SlMerge -/
set_option Elab.async false
set_option linter.all false
set_option maxRecDepth 100000
set_option maxHeartbeats 4000000
/-! {**a, **b} -/
namespace Sl
open PySem PySem.Spec PyProof.Rows L2
section
variable {prog : Program} {w : World} {κ : Type} [DecidableEq κ] {knd : KeyKind prog w κ} {A : Around} {E : Value → Shared → Prop} {s : Shared}
theorem dictPut_pairs {d : Addr} {kvs : List (κ × Value)} {k : κ} {key v : Value} {Q : Unit → Shared → Prop} (hkey : knd.is k key = true) (hm : s.heap.DictOf knd d kvs)
    (hQ : ∀ h', h'.DictOf knd d (stored kvs k v) → Heap.SameBut d s.heap h' → Q () { s with heap := h' }) (hsz : kvs.length ≤ sizeLine) : wpAny (model prog w) A (dictPut d (knd.hash k) key v) Q E s := by
  obtain ⟨o, es, ep, ho, hc, hd, hk, hp, hn⟩ := hm
  have hes : es.size ≤ sizeLine := by
    have e1 := hp.length
    have e2 : es.toList.length = es.size := by simp
    omega
  unfold dictPut
  refine wpAny_bind (wpAny_dictFind_of hkey ho hd hk ?_)
  have hidx : (es.findIdx? fun e => knd.is k e.key) = kvs.findIdx? fun kv => decide (kv.1 = k) := by
    rw [← hp.findIdx k]; obtain ⟨l⟩ := es; simp
  cases hi : es.findIdx? fun e => knd.is k e.key with
  | some i =>
    refine wpAny_updateDict ho hd (hQ _ ⟨_, _, ep, Heap.get?_update_self _ ho (Obj.isFreed_of_dict (Obj.data_mapDict hd _)), hc.mapDict _, Obj.data_mapDict hd _, hk.modify _ _, ?_, ?_⟩ (Heap.SameBut.update ..))
    · rw [stored, if_pos (any_of_findIdx_some (hidx ▸ hi))]
      have hl : (es.toList.findIdx? fun e => knd.is k e.key) = some i := by rw [← hi]; obtain ⟨l⟩ := es; simp
      have := hp.modify hn hl v
      obtain ⟨l⟩ := es
      simpa using this
    · rw [stored, if_pos (any_of_findIdx_some (hidx ▸ hi)), keys_map_store]; exact hn
  | none =>
    have hnot : k ∉ kvs.map (·.1) := not_mem_of_findIdx_none (hidx ▸ hi)
    have hany : ¬ (kvs.any fun kv => decide (kv.1 = k)) = true := by
      rw [List.any_eq_true]; rintro ⟨kv, hkv, he⟩
      exact hnot (List.mem_map.mpr ⟨kv, hkv, of_decide_eq_true he⟩)
    refine wpAny_updateDictKeys (hz := hes) ho hd (hQ _ ⟨_, _, ep + 1, Heap.get?_update_self _ ho (Obj.isFreed_of_dict (Obj.data_mapDictKeys hd _)),
      hc.mapDictKeys _, Obj.data_mapDictKeys hd _, hk.push hkey _, ?_, ?_⟩ (Heap.SameBut.update ..))
    · rw [stored, if_neg hany]
      have := hp.append hkey (knd.hash k) v
      obtain ⟨l⟩ := es
      simpa using this
    · rw [stored, if_neg hany, List.map_append, List.nodup_append]
      refine ⟨hn, by simp, ?_⟩
      intro a ha b hb
      simp only [List.map_cons, List.map_nil, List.mem_singleton] at hb
      subst hb
      exact fun e => hnot (e ▸ ha)
theorem mergeMapping_pairs {d o : Addr} {kvs more : List (κ × Value)} {Q : Unit → Shared → Prop} (hnr : ∀ k a, knd.is k (.ref a) = false) (hdo : d ≠ o) (hoS : (o == sysModules) = false) (hd : s.heap.DictOf knd d kvs) (ho : s.heap.DictOf knd o more)
    (hQ : ∀ h', h'.DictOf knd d (merged kvs more) → h'.DictOf knd o more → Heap.SameBut d s.heap h' → Q () { s with heap := h' }) (hsz : kvs.length + more.length ≤ sizeLine) :
    wpAny (model prog w) A (mergeMapping d (.ref o) false) Q E s := by
  obtain ⟨od, esd, epd, hod, hcd, hdd, hkd, hpd, hnd⟩ := id hd
  obtain ⟨oo, eso, epo, hoo, hco, hdo', hko, hpo, hno⟩ := id ho
  have hT : s.TypeIs (.ref o) "dict" := ⟨oo, hoo, hco.1⟩
  have hlen : more.length = eso.size := by rw [← hpo.length]; simp
  unfold mergeMapping
  refine wpAny_bind (wpAny_isInstance hT (b := true) (by rw [isSubtype_type]; kernel_rfl) ?_)
  rw [if_pos rfl]
  refine wpAny_bind (wpAny_specialOf hT F.slot_dict_iter.lookup ?_)
  refine wpAny_bind (wpAny_pure ?_)
  rw [show ((some (Value.builtin "dict.__iter__")) == some (Value.builtin "dict.__iter__")) = true by decide +kernel]
  dsimp only
  rw [if_neg (by rw [hoS]; exact Bool.false_ne_true)]
  refine wpAny_bind (wpAny_dictEntries hod hdd ?_)
  have loop : wpAny (model prog w) A (do
      let l ← dictEntries o
      let size : Nat := l.size
      let epoch ← dictEpoch o
      forIn (List.range size) PUnit.unit fun i (_ : PUnit) => (do
          let l' ← dictEntries o
          match l'[i]? with
            | some e => do
              holding [e.key, e.val] (dictPut d e.hash e.key e.val)
              let ep' ← dictEpoch o
              if (ep' != epoch) = true then do
                  (unsupported "dict.changed-during-merge" : Sem PUnit)
                  pure (ForInStep.yield PUnit.unit)
                else pure (ForInStep.yield PUnit.unit)
            | _ => do
              (unsupported "dict.changed-during-merge" : Sem PUnit)
              pure (ForInStep.yield PUnit.unit) : Sem (ForInStep PUnit))
      pure ()) Q E s := by
    refine wpAny_bind (wpAny_dictEntries hoo hdo' ?_)
    refine wpAny_bind (wpAny_dictEpoch hoo hdo' ?_)
    refine wpAny_bind ?_
    rw [List.range_eq_range']
    refine wpAny_forIn_list _
      (fun rest _ s' => ∃ h' i, s' = { s with heap := h' } ∧ rest = List.range' i (eso.size - i) ∧ i ≤ eso.size ∧ h'.DictOf knd d (merged kvs (more.take i)) ∧ h'.get? o = some oo ∧ Heap.SameBut d s.heap h')
      _ ?_ ?_ _ _ ⟨s.heap, 0, rfl, by simp, Nat.zero_le _, by simpa [merged] using hd, hoo, Heap.SameBut.refl _ _⟩
    · rintro x rest b s' ⟨h', i, rfl, hr, hi, hd', hoo', hs'⟩
      have hlt : i < eso.size := by
        rcases Nat.lt_or_ge i eso.size with h | h
        · exact h
        · rw [Nat.sub_eq_zero_of_le h] at hr; simp at hr
      obtain ⟨rfl, hrest⟩ : x = i ∧ rest = List.range' (i + 1) (eso.size - (i + 1)) := by
        have e : eso.size - i = (eso.size - (i + 1)) + 1 := by omega
        rw [e, List.range'_succ] at hr
        injection hr with h1 h2
        exact ⟨h1, h2⟩
      refine wpAny_bind (wpAny_dictEntries hoo' hdo' ?_)
      rw [Array.getElem?_eq_getElem hlt]
      obtain ⟨kv, hkv⟩ : ∃ kv, more[x]? = some kv := ⟨more[x]'(by rw [hlen]; exact hlt), List.getElem?_eq_getElem _⟩
      obtain ⟨k, v⟩ := kv
      obtain ⟨hkey, hval⟩ := hpo.get? (e := eso[x]) (by simp [hlt]) hkv
      obtain ⟨k', hkey', hhash⟩ := hko eso[x] (Array.getElem_mem hlt)
      obtain rfl : k' = k := knd.inj _ _ _ hkey' hkey
      show wpAny _ _ (holding [eso[x].key, eso[x].val] (dictPut d eso[x].hash eso[x].key eso[x].val) >>= _) _ _ _
      rw [hhash, hval]
      have hmx : (merged kvs (more.take x)).length ≤ sizeLine := by
        have e1 := merged_length_le kvs (more.take x)
        have e2 : (more.take x).length ≤ more.length := by rw [List.length_take]; omega
        omega
      refine wpAny_bind (wpAny_holding (dictPut_pairs (hsz := hmx) hkey hd' fun h'' hd'' hs'' => ?_))
      have hoo'' : h''.get? o = some oo := (hs''.2 o (Ne.symm hdo)).trans hoo'
      refine wpAny_bind (wpAny_dictEpoch hoo'' hdo' ?_)
      rw [if_neg (by simp)]
      exact wpAny_pure ⟨h'', x + 1, rfl, hrest, hlt, by rw [merged_take_succ kvs more x (k', v) hkv]; exact hd'', hoo'', hs'.trans hs''⟩
    · rintro b s' ⟨h', i, rfl, hr, hi, hd', hoo', hs'⟩
      have hin : i = eso.size := by
        rcases Nat.lt_or_ge i eso.size with h | h
        · have e : eso.size - i = (eso.size - (i + 1)) + 1 := by omega
          rw [e, List.range'_succ] at hr; exact nomatch hr
        · exact Nat.le_antisymm hi h
      refine wpAny_pure (hQ h' ?_ ⟨oo, eso, epo, hoo', hco, hdo', hko, hpo, hno⟩ hs')
      rw [hin, ← hlen, List.take_length] at hd'; exact hd'
  split
  · refine wpAny_bind (wpAny_dictEntries hoo hdo' ?_)
    refine wpAny_bind (MeetsSeq2.wpAny_forIn_array _ (fun rest _ s' => s' = s ∧ ∀ e ∈ rest, e ∈ eso) _ ?_ ?_ _ _ ⟨rfl, fun e he => by simpa using he⟩)
    · rintro e rest b s' ⟨rfl, hm⟩
      obtain ⟨k', hkey', _⟩ := hko e (hm e List.mem_cons_self)
      cases hk : e.key with
      | ref a =>
        rw [hk, hnr] at hkey'
        cases hkey'
      | _ => exact wpAny_pure ⟨rfl, fun e he => hm e (List.mem_cons_of_mem _ he)⟩
    · rintro b s' ⟨rfl, _⟩
      exact loop
  · exact loop
end
theorem mix_noref (prog : Program) (w : World) (k : Key) (a : Addr) : (mixKind prog w).is k (.ref a) = false := by
  cases k <;> rfl
def tTwo (t1 t2 : TE) : TE := fun σ H Q => ∀ p, H p = none → t1 σ (upd H p (.dK [])) fun x H1 => ∃ (a : Addr) (ks : List (Key × V)), x = .ref a ∧ a ≠ p ∧ Rd H1 a (.dK ks) ∧ H1 p = some (.dK []) ∧ ks.length ≤ 10000 ∧
  t2 σ (upd H1 p (.dK (mergeK [] ks))) fun y H2 => ∃ (b : Addr) (ls : List (Key × V)), y = .ref b ∧ b ≠ p ∧ Rd H2 b (.dK ls) ∧ H2 p = some (.dK (mergeK [] ks)) ∧ ls.length ≤ 10000 ∧ Q (.ref p) (upd H2 p (.dK (mergeK (mergeK [] ks) ls)))
section
variable {X : Cx} {e1 e2 : Expr} {t1 t2 : TE} {pos : Pos}
theorem merge_step {E : Value → Shared → Prop} {pins : List (Addr × Obj)} {σ : L2.St} {H : Hp} {s : Shared} {p a : Addr} {kvs ks : List (Key × V)} {Q : Unit → Shared → Prop} (I : Inv X pins σ H s) (hp : H p = some (.dK kvs)) (ne : a ≠ p) (ha : Rd H a (.dK ks)) (h1 : kvs.length ≤ 20000) (h2 : ks.length ≤ 10000)
    (q : ∀ s', Inv X pins σ (upd H p (.dK (mergeK kvs ks))) s' → Q () s') : wpAny (model X.prog X.w) X.A (mergeMapping p (.ref a) false) Q E s := by
  obtain ⟨z, hd, vs, rel, dd⟩ := dk_of I.hok hp
  obtain ⟨z2, hd2, ws, rel2, dd2⟩ := dk_rd I.hok ha
  have l1 := rel.length
  have l2 := rel2.length
  have hl := length_mergeK ks kvs
  refine mergeMapping_pairs (mix_noref X.prog X.w) ne.symm hd2 dd dd2 (fun h' dd' _ hs => q _ ?_) (by rw [← l1, ← l2, sizeLine_eq]; omega)
  have he : ∃ q, h'.get? p = some q := let ⟨q, _, _, hq, _⟩ := dd'; ⟨q, hq⟩
  exact d_write I (by rw [hp]; exact True.intro) hs he (dk_new (by rw [sizeLine_eq]; omega) hd (KV.merge rel2 rel) dd')
theorem pe_two (h1 : PE X e1 t1) (h2 : PE X e2 t2) : PE X (.Dict [none, none] [e1, e2] pos) (tTwo t1 t2) := by
  refine ⟨fun pins s σ H Q I q => ?_⟩
  have hn := I.hok.fresh (Nat.le_refl s.heap.objs.size)
  have I1 := I.laid (a := s.heap.objs.size) (o := .dK []) (h' := s.heap.push { cls := .type "dict", data := .dict #[] }) (t' := s.toks) (fun _ _ q => Heap.get?_push_of_some _ q) (Nat.le_refl _) (dk_empty s.heap I.big)
  rw [arm_eval_Dict]
  refine wpAny_bind (wpAny_standAt ?_)
  show wpAny _ _ (dictDisplay [(none, do let x ← eval e1 X.env; standAt pos; pure x), (none, do let x ← eval e2 X.env; standAt pos; pure x)]) _ _ s
  unfold dictDisplay
  simp only [List.forIn_cons, List.forIn_nil, List.isEmpty_nil, if_true, pure_bind, bind_assoc]
  refine wpAny_bind (wpAny_alloc ?_)
  refine wpAny_bind (wpAny_holding (wpAny_bind (thn (h1.run pins _ σ _ _ I1 (q _ hn)) fun u s1 ⟨x, H1, I2, r1, a, ks, ex, ne, ha, hp, hk, q1⟩ => wpAny_bind (wpAny_standAt (wpAny_pure ?_)))))
  subst ex
  obtain rfl : u = Value.ref a := r1
  refine wpAny_bind (wpAny_onRaise (wpAny_tryCatch (wpAny_onRaise (wpAny_holding (merge_step I2 hp ne ha (by simp) hk fun s2 I3 => ?_)))))
  have l1 := length_mergeK ks []
  refine wpAny_bind (wpAny_holding (wpAny_bind (thn (h2.run pins _ σ _ _ I3 q1) fun u s3 ⟨y, H2, I4, r2, b, ls, ey, ne2, hb, hp2, hl, q2⟩ => wpAny_bind (wpAny_standAt (wpAny_pure ?_)))))
  subst ey
  obtain rfl : u = Value.ref b := r2
  refine wpAny_bind (wpAny_onRaise (wpAny_tryCatch (wpAny_onRaise (wpAny_holding (merge_step I4 hp2 ne2 hb (by simp at l1; omega) hl fun s4 I5 => ?_)))))
  exact wpAny_pure ⟨.ref _, _, I5, rfl, q2⟩
end
end Sl
/-! ## SlWalk -/
set_option Elab.async false
set_option linter.all false
set_option maxRecDepth 100000
set_option maxHeartbeats 4000000
namespace Sl
open PySem PySem.Spec PyProof.Rows L2
/-! ### a walk over a dict that was just made: it is locked by the walk, for good -/
def iKeysN (td : TE) : TI := fun σ H R => td σ H fun x H1 => ∃ (d : Addr) (kvs : List (Key × V)), x = .ref d ∧ H1 d = some (.dK kvs) ∧ ∀ od, R (Itk d od kvs) (upd H1 d (.frz od (.dK kvs)))
section
variable {X : Cx} {tg e : Expr} {td : TE} {p pos apos mpos : Pos}
theorem pi_keysN (he : PE X e td) : PI X tg e (iKeysN td) := by
  refine ⟨fun pins s σ H R I h => ?_⟩
  refine thn (he.run pins s σ H _ I h) fun u s1 ⟨x, H1, I1, rx, d, kvs, ex, hd, q⟩ => ?_
  subst ex
  obtain rfl : u = Value.ref d := rx
  obtain ⟨od, I2⟩ := I1.lock hd True.intro
  obtain ⟨hs, hgd, hx, es, ep, vs, hdt, hsz, kv, hm⟩ := I2.frzK upd_same
  refine iter_keys hs hgd hx hdt (pi_one (tk := s1.toks) I2 _ (turn_keys _ hdt) ⟨_, Heap.get?_push_size _ rfl, rfl, ?_⟩ (q od))
  rw [hsz] <;> rfl
/-! ### sum(d.values()) -/
theorem preSum_getD (is : List Int) : ∀ n : Nat, n ≤ is.length → preSum (fun i => is.getD i 0) n = (is.take n).sum
  | 0, _ => rfl
  | n + 1, h => by
    show preSum (fun i => is.getD i 0) n + is.getD n 0 = _
    rw [preSum_getD is n (by omega), List.take_succ_eq_append_getElem (by omega), List.sum_append]
    rw [List.getD_eq_getElem?_getD, List.getElem?_eq_getElem (by omega)]
    simp
def tSumVals (td : TE) : TE := fun σ H Q => td σ H fun x H1 => ∃ (a : Addr) (kvs : List (Key × V)) (is : List Int), x = V.ref a ∧ H1 a = some (.dK kvs) ∧ kvs.map (·.2) = is.map V.int ∧ Q (.int is.sum) H1
theorem pe_sumVals (hc : X.calm = true) (hg : Gl X "sum") (hm : X.mg "sum" = none) (hd : PE X e td) (hbase : attributeBase e "values" X.env (eval e X.env) = eval e X.env := by rfl) (hline : (apos.endLine == mpos.line) = true := by rfl)
    (hse : starEach [Expr.Call (.Attribute e "values" apos) [] [] mpos] X.env = [(false, eval (Expr.Call (.Attribute e "values" apos) [] [] mpos) X.env)] := by rfl) :
    PE X (.Call (.Name "sum" p) [.Call (.Attribute e "values" apos) [] [] mpos] [] pos) (tSumVals td) := by
  refine ⟨fun pins s σ H Q I h => ?_⟩
  refine wpAny_Call_Name_kw (ld_blt I hg hm (u := .builtin "sum") (by first | rfl | decide +kernel) ?_ (by first | decide +kernel | decide) (by first | decide +kernel | decide))
  rw [hse]
  refine PySem.callWith_builtin1 (wpAny_Call_method0_late hbase hline (thn (hd.run pins s σ H _ I h) fun v s1 ⟨x, H1, I1, r1, a, kvs, is, ex, ha, hv, q⟩ => ?_))
  subst ex
  obtain rfl : v = Value.ref a := r1
  obtain ⟨_, hsys, vs, rel, dof⟩ := dk_of I1.hok ha
  obtain ⟨ep, dat⟩ := dof.dictAt
  have dat' := dat
  obtain ⟨ob, es, ho, ex, hdat, hko, hpr, hnd⟩ := dat'
  refine ⟨"dict", "dict.values", F.plainAttrs_dict, F.slot_dict_values, F.type_dict_values, ⟨ob, ho, ex.1⟩, fun b e => ?_, Calls.callWith_builtin rfl (PySem.evalArgs_none ?_)⟩
  · cases e
    exact ⟨ob, ho, ex.2.1⟩
  refine call_meetsIn F.slot_dict_values ⟨ob, ho, ex.1⟩ F.entry_dict_values (F.args_dict_values_1 _) (meets_dict_values (mixKind X.prog X.w) a hsys) ⟨⟨vs, dof⟩, ?_⟩
  have k1 : ∀ b u, s1.heap.get? b = some u → (s1.heap.push { cls := .type "dict_values", data := .fields #[.ref a] }).get? b = some u := fun b u e => Heap.get?_push_of_some _ e
  have dat1 : (s1.heap.push { cls := .type "dict_values", data := .fields #[.ref a] }).DictAt (mixKind X.prog X.w) a vs ep := dat.keep k1
  have hlv : vs.length = is.length := by
    have e1 := congrArg List.length hv
    rw [List.length_map, List.length_map] at e1
    rw [← e1]
    exact (KV.length rel).symm
  have hval : ∀ (i : Nat) (v : Value), (∃ k, vs[i]? = some (k, v)) → ∃ t, v = Value.int (is.getD i 0) t := fun i v ⟨k, hk⟩ => by
    obtain ⟨x, h1, h2⟩ := KV.at' rel hk
    have e1 : (kvs.map (·.2))[i]? = some x := by rw [List.getElem?_map, h1] <;> rfl
    rw [hv, List.getElem?_map] at e1
    obtain ⟨j, hj, e2⟩ := Option.map_eq_some_iff.mp e1
    subst e2
    obtain ⟨t, e3⟩ := h2
    refine ⟨t, ?_⟩
    rw [e3, List.getD_eq_getElem?_getD, hj] <;> rfl
  refine call_sum_walkG (wpAny_pyIter_values (v := s1.heap.objs.size) (d := a) ⟨_, Heap.get?_push_size _ rfl, rfl, rfl⟩ dat1 ?_)
  have hlt : a < s1.heap.objs.size := Heap.lt_size ho
  have hsz : (s1.heap.push { cls := .type "dict_values", data := .fields #[.ref a] }).objs.size = s1.heap.objs.size + 1 := Heap.size_push _ _
  refine ⟨_, _, _, _, _, _, (fun i => is.getD i 0), rfl, Walks.dictValues (knd := mixKind X.prog X.w) (A := X.A.in1) (I.ok.hd hc) (s1.heap.push { cls := .type "dict_values", data := .fields #[.ref a] }).objs.size a (by rw [hsz]; exact Nat.ne_of_lt (Nat.lt_succ_of_lt hlt)) vs ep,
    ⟨⟨_, Heap.get?_push_size _ rfl, rfl, rfl⟩, dat1.keep fun b u e => Heap.get?_push_of_some _ e⟩, fun b hb => ?_, hval, fun h' tk t' hk => ?_⟩
  · show b < ((s1.heap.push _).push _).objs.size
    rw [Heap.size_push, Heap.size_push]
    rw [hsz] at hb
    rcases List.mem_cons.mp hb with e | hb
    · rw [e]
      exact Nat.lt_succ_self _
    · have e : b = a := List.mem_singleton.mp hb
      rw [e]
      exact Nat.lt_succ_of_lt (Nat.lt_succ_of_lt hlt)
  · rw [hlv, preSum_getD is _ (Nat.le_refl _), List.take_length]
    refine ⟨.int _, H1, I1.kept (t' := tk) fun b u e => hk b u (fun hmem => ?_) (Heap.get?_push_of_some _ (k1 b u e)), ⟨t', rfl⟩, q⟩
    have e1 : b = (s1.heap.push { cls := .type "dict_values", data := .fields #[.ref a] }).objs.size := List.mem_singleton.mp hmem
    have e2 := Heap.lt_size e
    rw [hsz] at e1
    rw [e1] at e2
    exact absurd e2 (Nat.not_lt.mpr (Nat.le_succ _))
end
end Sl
/-! ## SlDic -/
set_option Elab.async false
set_option linter.all false
set_option maxRecDepth 100000
set_option maxHeartbeats 4000000
namespace Sl
open PySem PySem.Spec PyProof.Rows L2
/-! ### d == e, d != e, flat values, both answers -/
def dicAll (ks ls : List (Key × V)) : Bool := ks.all fun p => match valV ls p.1 with
  | some y => eqV p.2 y
  | none => false
def dicEq (ks ls : List (Key × V)) : Bool := (ks.length == ls.length) && dicAll ks ls
def flatD (ks : List (Key × V)) : Bool := ks.all fun p => flatV p.2
def rEqDic : R2 := fun x y H Q => ∃ (a b : Addr) (ks ls : List (Key × V)), x = .ref a ∧ y = .ref b ∧ Rd H a (.dK ks) ∧ Rd H b (.dK ls) ∧ flatD ks = true ∧ flatD ls = true ∧ Q (.bl (dicEq ks ls)) H
def rNeDic : R2 := fun x y H Q => ∃ (a b : Addr) (ks ls : List (Key × V)), x = .ref a ∧ y = .ref b ∧ Rd H a (.dK ks) ∧ Rd H b (.dK ls) ∧ flatD ks = true ∧ flatD ls = true ∧ Q (.bl (!dicEq ks ls)) H
theorem valV_mem {ls : List (Key × V)} {k : Key} {y : V} (h : valV ls k = some y) : ∃ p ∈ ls, p.2 = y := by
  unfold valV at h
  cases e : ls.find? fun kv => decide (kv.1 = k) with
  | none => rw [e] at h; cases h
  | some p =>
    rw [e] at h
    exact ⟨p, List.mem_of_find?_eq_some e, Option.some.inj h⟩
theorem hits_of {A : Around} {s : Shared} {ls : List (Key × V)} {vb : List (Key × Value)} (rb : KV ls vb) (fl : flatD ls = true) : ∀ {ks : List (Key × V)} {va : List (Key × Value)}, KV ks va → flatD ks = true → PySem.W.KeqHits A s vb va (dicAll ks ls)
  | _, _, .nil, _ => .nil
  | p :: ks, q :: va, .cons h t, f => by
    obtain ⟨h1, h2⟩ := h
    have f1 : flatV p.2 = true ∧ flatD ks = true := Bool.and_eq_true_iff.mp (show (flatV p.2 && flatD ks) = true from f)
    have ih := hits_of (A := A) (s := s) rb fl t f1.2
    have rv := KV.val rb p.1
    obtain ⟨k, v⟩ := q
    have ek : p.1 = k := h1
    subst ek
    show PySem.W.KeqHits A s vb ((p.1, v) :: va) ((match valV ls p.1 with | some y => eqV p.2 y | none => false) && dicAll ks ls)
    cases e : valV ls p.1 with
    | none =>
      rw [e] at rv
      have : valueAt vb p.1 = none := by
        cases e2 : valueAt vb p.1 with
        | none => rfl
        | some u => rw [e2] at rv; exact rv.elim
      exact .miss this
    | some y =>
      rw [e] at rv
      obtain ⟨u, e2, ru⟩ := RelO.some_of rv
      obtain ⟨pp, hp, hy⟩ := valV_mem e
      have fy : flatV y = true := by rw [← hy]; exact List.all_eq_true.mp fl pp hp
      exact .hit e2 (eqAt_V h2 ru f1.1 fy) ih
section
variable {X : Cx}
theorem op_eqDic (hu : X.A.units < cLine) : OpR X (compareOp .Eq) rEqDic := by
  intro pins s σ H x y v u Q I rx ry h
  obtain ⟨a, b, ks, ls, rfl, rfl, ea, eb, fa, fb, q⟩ := h
  obtain rfl : v = Value.ref a := rx
  obtain rfl : u = Value.ref b := ry
  obtain ⟨_, ya, va, ra, da⟩ := dk_rd I.hok ea
  obtain ⟨_, yb, vb, rb, db⟩ := dk_rd I.hok eb
  refine PySem.W.keq_eq (knd := mixKind X.prog X.w) (r := dicAll ks ls) ya yb da db hu (fun _ => hits_of rb fb ra fa) (fin_bl I q ?_)
  rw [← KV.length ra, ← KV.length rb]
  rfl
theorem op_neDic (hu : X.A.units < cLine) : OpR X (compareOp .NotEq) rNeDic := by
  intro pins s σ H x y v u Q I rx ry h
  obtain ⟨a, b, ks, ls, rfl, rfl, ea, eb, fa, fb, q⟩ := h
  obtain rfl : v = Value.ref a := rx
  obtain rfl : u = Value.ref b := ry
  obtain ⟨_, ya, va, ra, da⟩ := dk_rd I.hok ea
  obtain ⟨_, yb, vb, rb, db⟩ := dk_rd I.hok eb
  refine PySem.W.keq_ne (knd := mixKind X.prog X.w) (r := dicAll ks ls) ya yb da db hu (fun _ => hits_of rb fb ra fa) (fin_bl I q ?_)
  rw [← KV.length ra, ← KV.length rb]
  rfl
end
end Sl
/-! ## DicI -/
set_option Elab.async false
set_option linter.all false
set_option maxRecDepth 100000
set_option maxHeartbeats 4000000
/-! dicts of names and whole numbers -/
namespace Sl
open PySem PySem.Spec PyProof.Rows L2
abbrev NI : Type := List (Str × Int)
def kvi (p : Str × Int) : Key × V := (.inr p.1, .int p.2)
def dI (A : NI) : HO := .dK (A.map kvi)
def ks (A : NI) : List Str := A.map (·.1)
def get? (A : NI) (x : Str) : Option Int := (A.find? fun p => decide (p.1 = x)).map (·.2)
def get0 (A : NI) (x : Str) : Int := (get? A x).getD 0
def nz (A : NI) : NI := A.filter fun p => decide (p.2 ≠ 0)
theorem valV_kvi (A : NI) (x : Str) : valV (A.map kvi) (.inr x) = (get? A x).map V.int := by
  unfold valV get?
  induction A with
  | nil => rfl
  | cons p r ih =>
    by_cases h : p.1 = x
    · have h1 : (fun kv : Key × V => decide (kv.1 = Sum.inr x)) (kvi p) = true := decide_eq_true (congrArg Sum.inr h)
      rw [List.map_cons, List.find?_cons_of_pos (p := fun kv : Key × V => decide (kv.1 = Sum.inr x)) h1, List.find?_cons_of_pos (by simpa using h)]
      rfl
    · have h1 : ¬ (fun kv : Key × V => decide (kv.1 = Sum.inr x)) (kvi p) = true := by
        intro e
        exact h (Sum.inr.inj (of_decide_eq_true e))
      rw [List.map_cons, List.find?_cons_of_neg (p := fun kv : Key × V => decide (kv.1 = Sum.inr x)) h1, List.find?_cons_of_neg (by simpa using h)]
      exact ih
theorem putK_new (A : NI) (x : Str) (i : Int) (h : x ∉ ks A) : putK (A.map kvi) (.inr x) (.int i) = (A ++ [(x, i)]).map kvi := by
  unfold putK
  have hn : ((A.map kvi).any fun kv => decide (kv.1 = Sum.inr x)) = false := by
    rw [List.any_eq_false]
    intro kv hk e
    obtain ⟨p, hp, rfl⟩ := List.mem_map.mp hk
    exact h (List.mem_map.mpr ⟨p, hp, Sum.inr.inj (of_decide_eq_true e)⟩)
  rw [hn, if_neg Bool.false_ne_true, List.map_append]
  rfl
theorem mergeK_new : ∀ (B A : NI), (ks (A ++ B)).Nodup → mergeK (A.map kvi) (B.map kvi) = (A ++ B).map kvi
  | [], A, _ => by
    rw [List.append_nil]
    rfl
  | p :: r, A, h => by
    have h1 : p.1 ∉ ks A := fun hm => by
      unfold ks at h hm
      rw [List.map_append, List.nodup_append] at h
      exact h.2.2 p.1 hm p.1 (List.mem_map.mpr ⟨p, List.mem_cons_self, rfl⟩) rfl
    show mergeK (putK (A.map kvi) (.inr p.1) (.int p.2)) (r.map kvi) = _
    rw [putK_new A p.1 p.2 h1, mergeK_new r (A ++ [(p.1, p.2)]) (by simpa using h)]
    rw [List.append_assoc]
    rfl
theorem mergeK_nil {A : NI} (h : (ks A).Nodup) : mergeK [] (A.map kvi) = A.map kvi := by
  have := mergeK_new A [] (by simpa using h)
  simpa using this
theorem flat_dI (A : NI) : flatD (A.map kvi) = true := by
  unfold flatD
  rw [List.all_map]
  exact List.all_eq_true.mpr fun _ _ => rfl
theorem keys_kvi (A : NI) : (A.map kvi).map (·.1) = (ks A).map Sum.inr := by
  unfold ks
  rw [List.map_map, List.map_map]
  rfl
theorem vals_kvi (A : NI) : (A.map kvi).map (·.2) = (A.map (·.2)).map V.int := by
  rw [List.map_map, List.map_map]
  rfl
theorem get?_mem {A : NI} {x : Str} {i : Int} (h : get? A x = some i) : (x, i) ∈ A := by
  unfold get? at h
  cases e : A.find? fun p => decide (p.1 = x) with
  | none => rw [e] at h; cases h
  | some p =>
    rw [e] at h
    have h1 := List.mem_of_find?_eq_some e
    have h2 : p.1 = x := by simpa using List.find?_some e
    have h3 : p.2 = i := Option.some.inj h
    rw [← h2, ← h3]
    exact h1
theorem get?_none {A : NI} {x : Str} : get? A x = none ↔ x ∉ ks A := by
  unfold get? ks
  rw [Option.map_eq_none_iff, List.find?_eq_none]
  constructor
  · intro h hm
    obtain ⟨p, hp, e⟩ := List.mem_map.mp hm
    exact h p hp (by simpa using e)
  · intro h p hp e
    exact h (List.mem_map.mpr ⟨p, hp, by simpa using e⟩)
theorem get?_of {A : NI} {x : Str} {i : Int} (h : (ks A).Nodup) (hm : (x, i) ∈ A) : get? A x = some i := by
  induction A with
  | nil => cases hm
  | cons p r ih =>
    have h' : p.1 ∉ ks r ∧ (ks r).Nodup := List.nodup_cons.mp h
    rcases List.mem_cons.mp hm with e | hr
    · subst e
      show ((((x, i) : Str × Int) :: r).find? fun p => decide (p.1 = x)).map (·.2) = some i
      rw [List.find?_cons_of_pos (by simp)]
      rfl
    · have ne : p.1 ≠ x := fun e => h'.1 (List.mem_map.mpr ⟨(x, i), hr, e.symm⟩)
      have := ih h'.2 hr
      unfold get? at this ⊢
      rw [List.find?_cons_of_neg (by simpa using ne)]
      exact this
theorem nz_ks {A : NI} {x : Str} (h : x ∈ ks (nz A)) : x ∈ ks A := by
  obtain ⟨p, hp, e⟩ := List.mem_map.mp h
  exact List.mem_map.mpr ⟨p, (List.mem_filter.mp hp).1, e⟩
theorem nz_nodup {A : NI} (h : (ks A).Nodup) : (ks (nz A)).Nodup := List.Nodup.sublist (List.Sublist.map _ List.filter_sublist) h
theorem get0_nz {A : NI} (h : (ks A).Nodup) (x : Str) : get0 (nz A) x = get0 A x := by
  unfold get0
  cases e : get? A x with
  | none =>
    have : get? (nz A) x = none := get?_none.mpr fun hm => (get?_none.mp e) (nz_ks hm)
    rw [this]
  | some i =>
    have hm := get?_mem e
    by_cases hi : i = 0
    · subst hi
      have : get? (nz A) x = none := by
        refine get?_none.mpr fun hn => ?_
        obtain ⟨p, hp, ep⟩ := List.mem_map.mp hn
        obtain ⟨h1, h2⟩ := List.mem_filter.mp hp
        have e3 := get?_of h (show (x, p.2) ∈ A by rw [← ep]; exact h1)
        rw [e] at e3
        have : (0 : Int) = p.2 := Option.some.inj e3
        simp [← this] at h2
      rw [this]
      rfl
    · have : get? (nz A) x = some i := get?_of (nz_nodup h) (List.mem_filter.mpr ⟨hm, by simpa using hi⟩)
      rw [this]
theorem get?_nz {A : NI} (h : (ks A).Nodup) (x : Str) : get? (nz A) x = if get0 A x = 0 then none else some (get0 A x) := by
  have h0 := get0_nz h x
  by_cases hz : get0 A x = 0
  · rw [if_pos hz]
    cases e : get? (nz A) x with
    | none => rfl
    | some i =>
      have hm := (List.mem_filter.mp (get?_mem e)).2
      unfold get0 at h0
      rw [e] at h0
      have : i = 0 := by
        show (some i).getD 0 = 0
        rw [h0]
        exact hz
      simp [this] at hm
  · rw [if_neg hz]
    cases e : get? (nz A) x with
    | none =>
      exfalso
      unfold get0 at h0
      rw [e] at h0
      exact hz h0.symm
    | some i =>
      unfold get0 at h0
      rw [e] at h0
      exact congrArg some h0
/-! ### == of two -/
def eqI (A B : NI) : Bool := dicEq (A.map kvi) (B.map kvi)
theorem eqV_int (i j : Int) : eqV (.int i) (.int j) = (i == j) := rfl
theorem eqI_iff {A B : NI} (ha : (ks A).Nodup) (hb : (ks B).Nodup) : eqI A B = true ↔ ∀ x, get? A x = get? B x := by
  have hall : dicAll (A.map kvi) (B.map kvi) = true ↔ ∀ p ∈ A, get? B p.1 = some p.2 := by
    unfold dicAll
    rw [List.all_map, List.all_eq_true]
    constructor
    · intro h p hp
      have := h p hp
      show get? B p.1 = some p.2
      have e : (match valV (B.map kvi) (.inr p.1) with | some y => eqV (.int p.2) y | none => false) = true := this
      rw [valV_kvi] at e
      cases g : get? B p.1 with
      | none => rw [g] at e; cases e
      | some i =>
        rw [g] at e
        have : (p.2 == i) = true := e
        rw [eq_of_beq this]
    · intro h p hp
      show (match valV (B.map kvi) (.inr p.1) with | some y => eqV (.int p.2) y | none => false) = true
      rw [valV_kvi, h p hp]
      show (p.2 == p.2) = true
      simp
  unfold eqI dicEq
  rw [Bool.and_eq_true, hall, beq_iff_eq, List.length_map, List.length_map]
  constructor
  · rintro ⟨hl, h⟩ x
    -- A's keys are B's: as many, without doubles
    have sub : ∀ y ∈ ks A, y ∈ ks B := fun y hy => by
      obtain ⟨p, hp, e⟩ := List.mem_map.mp hy
      have := get?_mem (h p hp)
      exact List.mem_map.mpr ⟨(p.1, p.2), this, e⟩
    cases e : get? A x with
    | some i =>
      rw [h (x, i) (get?_mem e)]
    | none =>
      have hx := get?_none.mp e
      cases e2 : get? B x with
      | none => rfl
      | some j =>
        exfalso
        have hxb : x ∈ ks B := List.mem_map.mpr ⟨(x, j), get?_mem e2, rfl⟩
        obtain ⟨y, hy, hny⟩ := one_not_in (x :: ks A) ((ks B)) (List.nodup_cons.mpr ⟨hx, ha⟩) (by
          rw [List.length_cons]
          unfold ks
          rw [List.length_map, List.length_map]
          omega)
        rcases List.mem_cons.mp hy with e3 | e3
        · exact hny (e3 ▸ hxb)
        · exact hny (sub y e3)
  · intro h
    have hk : ∀ {A B : NI}, (ks A).Nodup → (∀ x, get? A x = get? B x) → A.length ≤ B.length := by
      intro A B ha h
      rcases Nat.lt_or_ge B.length A.length with hlt | hge
      · exfalso
        obtain ⟨y, hy, hny⟩ := one_not_in (ks A) (ks B) ha (by unfold ks; rw [List.length_map, List.length_map]; exact hlt)
        obtain ⟨p, hp, e⟩ := List.mem_map.mp hy
        have e1 := get?_of ha (show (p.1, p.2) ∈ A from hp)
        rw [h p.1] at e1
        exact hny (List.mem_map.mpr ⟨(p.1, p.2), get?_mem e1, e⟩)
      · exact hge
    refine ⟨Nat.le_antisymm (hk ha h) (hk hb fun x => (h x).symm), fun p hp => ?_⟩
    rw [← h p.1]
    exact get?_of ha hp
theorem nz_take {A : NI} {i : Nat} {p : Str × Int} (h : A[i]? = some p) : nz (A.take (i + 1)) = nz (A.take i) ++ (if p.2 ≠ 0 then [p] else []) := by
  unfold nz
  rw [List.take_succ, h, List.filter_append]
  congr 1
  show [p].filter _ = _
  by_cases hp : p.2 = 0
  · rw [List.filter_cons_of_neg (by simpa using hp), if_neg (by simpa using hp)]
    rfl
  · rw [List.filter_cons_of_pos (by simpa using hp), if_pos hp]
    rfl
theorem take_fresh {A : NI} (hn : (ks A).Nodup) {i : Nat} {p : Str × Int} (h : A[i]? = some p) : p.1 ∉ ks (A.take i) := by
  intro hm
  have h1 : (ks (A.take (i + 1))).Nodup := List.Nodup.sublist (List.Sublist.map _ (List.take_sublist _ _)) hn
  rw [List.take_succ, h] at h1
  unfold ks at h1 hm
  rw [List.map_append, List.nodup_append] at h1
  exact h1.2.2 p.1 hm p.1 (List.mem_map.mpr ⟨p, List.mem_singleton.mpr rfl, rfl⟩) rfl
theorem paired_at {α β : Type} {R : α → β → Prop} : ∀ {xs : List α} {ys : List β} {n : Nat} {a : α}, Paired R xs ys → xs[n]? = some a → ∃ b, ys[n]? = some b ∧ R a b
  | _, _, 0, _, .cons r _, e => ⟨_, rfl, by simp at e; rw [← e]; exact r⟩
  | _, _, n + 1, _, .cons _ t, e => let ⟨b, h1, h2⟩ := paired_at (n := n) t (by simpa using e); ⟨b, by simpa using h1, h2⟩
theorem paired_same {α β : Type} {R S : α → β → Prop} (h : ∀ a b, R a b → S a b) : ∀ {xs : List α} {ys : List β}, Paired R xs ys → Paired S xs ys
  | _, _, .nil => .nil
  | _, _, .cons r t => .cons (h _ _ r) (paired_same h t)
end Sl
/-! ## DicU -/
set_option Elab.async false
set_option linter.all false
set_option maxRecDepth 100000
set_option maxHeartbeats 4000000
namespace Sl
open PySem PySem.Spec PyProof.Rows L2
/-! the keys of two dicts together -/
def putI (A : NI) (x : Str) (i : Int) : NI := if x ∈ ks A then A.map (fun p => if p.1 = x then (p.1, i) else p) else A ++ [(x, i)]
def mrgI (A B : NI) : NI := B.foldl (fun acc p => putI acc p.1 p.2) A
theorem putK_kvi (A : NI) (x : Str) (i : Int) : putK (A.map kvi) (.inr x) (.int i) = (putI A x i).map kvi := by
  by_cases h : x ∈ ks A
  · unfold putI
    rw [if_pos h]
    unfold putK
    have hn : ((A.map kvi).any fun kv => decide (kv.1 = Sum.inr x)) = true := by
      obtain ⟨p, hp, e⟩ := List.mem_map.mp h
      exact List.any_eq_true.mpr ⟨kvi p, List.mem_map.mpr ⟨p, hp, rfl⟩, decide_eq_true (congrArg Sum.inr e)⟩
    rw [if_pos hn, List.map_map, List.map_map]
    refine List.map_congr_left fun p _ => ?_
    show (if (kvi p).1 = Sum.inr x then ((kvi p).1, V.int i) else kvi p) = kvi (if p.1 = x then (p.1, i) else p)
    by_cases e : p.1 = x
    · rw [if_pos e, if_pos (show (kvi p).1 = Sum.inr x from congrArg Sum.inr e)]
      rfl
    · rw [if_neg e, if_neg (show ¬ (kvi p).1 = Sum.inr x from fun q => e (Sum.inr.inj q))]
  · rw [putK_new A x i h]
    unfold putI
    rw [if_neg h]
theorem mergeK_kvi : ∀ (B A : NI), mergeK (A.map kvi) (B.map kvi) = (mrgI A B).map kvi
  | [], _ => rfl
  | p :: r, A => by
    show mergeK (putK (A.map kvi) (.inr p.1) (.int p.2)) (r.map kvi) = (mrgI (putI A p.1 p.2) r).map kvi
    rw [putK_kvi, mergeK_kvi r]
theorem ks_putI (A : NI) (x : Str) (i : Int) : ks (putI A x i) = if x ∈ ks A then ks A else ks A ++ [x] := by
  unfold putI
  by_cases h : x ∈ ks A
  · rw [if_pos h, if_pos h]
    unfold ks
    rw [List.map_map]
    refine List.map_congr_left fun p _ => ?_
    show (if p.1 = x then (p.1, i) else p).1 = p.1
    by_cases e : p.1 = x
    · rw [if_pos e]
    · rw [if_neg e]
  · rw [if_neg h, if_neg h]
    unfold ks
    rw [List.map_append]
    rfl
theorem putI_keys {A : NI} (x : Str) (i : Int) (h : (ks A).Nodup) : (ks (putI A x i)).Nodup ∧ ∀ y, y ∈ ks (putI A x i) ↔ y ∈ ks A ∨ y = x := by
  rw [ks_putI]
  by_cases hx : x ∈ ks A
  · rw [if_pos hx]
    refine ⟨h, fun y => ⟨.inl, fun q => ?_⟩⟩
    rcases q with q | q
    · exact q
    · rw [q]
      exact hx
  · rw [if_neg hx]
    refine ⟨List.nodup_append.mpr ⟨h, by simp, fun a ha b hb e => hx ?_⟩, fun y => by simp⟩
    rw [← List.mem_singleton.mp hb, ← e]
    exact ha
theorem mrgI_keys : ∀ (B A : NI), (ks A).Nodup → (ks (mrgI A B)).Nodup ∧ ∀ y, y ∈ ks (mrgI A B) ↔ y ∈ ks A ∨ y ∈ ks B
  | [], A, h => ⟨h, fun y => ⟨.inl, fun q => q.elim id fun q => absurd q List.not_mem_nil⟩⟩
  | p :: r, A, h => by
    obtain ⟨h1, h2⟩ := putI_keys p.1 p.2 h
    obtain ⟨h3, h4⟩ := mrgI_keys r (putI A p.1 p.2) h1
    refine ⟨h3, fun y => ?_⟩
    show y ∈ ks (mrgI (putI A p.1 p.2) r) ↔ y ∈ ks A ∨ y ∈ p.1 :: ks r
    rw [h4 y, h2 y, List.mem_cons, or_assoc]
theorem mrgI_len : ∀ (B A : NI), (mrgI A B).length ≤ A.length + B.length
  | [], A => Nat.le_refl _
  | p :: r, A => by
    have := mrgI_len r (putI A p.1 p.2)
    have h2 : (putI A p.1 p.2).length ≤ A.length + 1 := by
      unfold putI
      split
      · rw [List.length_map]
        omega
      · rw [List.length_append]
        exact Nat.le_refl _
    show (mrgI (putI A p.1 p.2) r).length ≤ A.length + (r.length + 1)
    omega
theorem get0_map {U : List Str} (hU : U.Nodup) (g : Str → Int) (x : Str) : get0 (U.map fun y => (y, g y)) x = if x ∈ U then g x else 0 := by
  by_cases h : x ∈ U
  · rw [if_pos h]
    unfold get0
    rw [get?_of (A := U.map fun y => (y, g y)) (i := g x) ?_ (List.mem_map.mpr ⟨x, h, rfl⟩)]
    · rfl
    · show (List.map _ _).Nodup
      rw [List.map_map]
      have : (U.map ((fun p : Str × Int => p.1) ∘ fun y => (y, g y))) = U := by
        have : ((fun p : Str × Int => p.1) ∘ fun y => (y, g y)) = id := rfl
        rw [this, List.map_id]
      rw [this]
      exact hU
  · rw [if_neg h]
    unfold get0
    have : get? (U.map fun y => (y, g y)) x = none := get?_none.mpr fun hm => h (by
      obtain ⟨p, hp, e⟩ := List.mem_map.mp hm
      obtain ⟨y, hy, ey⟩ := List.mem_map.mp hp
      subst ey
      exact e ▸ hy)
    rw [this]
    rfl
theorem ks_map (U : List Str) (g : Str → Int) : ks (U.map fun y => (y, g y)) = U := by
  unfold ks
  rw [List.map_map]
  exact List.map_id U
theorem get0_none {A : NI} {x : Str} (h : x ∉ ks A) : get0 A x = 0 := by
  unfold get0
  rw [get?_none.mpr h]
  rfl
end Sl
/-! ## PlanC -/
set_option Elab.async false
set_option linter.all false
set_option maxRecDepth 100000
set_option maxHeartbeats 8000000
namespace Sl
open PySem PySem.Spec PyProof.Rows L2
/-- d == {}, whatever d's values -/
def rEqEmp : R2 := fun x y H Q => ∃ (a b : Addr) (ks : List (Key × V)), x = .ref a ∧ y = .ref b ∧ Rd H a (.dK ks) ∧ Rd H b (.dK []) ∧ Q (.bl ks.isEmpty) H
theorem op_eqEmp {X : Cx} (hu : X.A.units < cLine) : OpR X (compareOp .Eq) rEqEmp := by
  intro pins s σ H x y v u Q I rx ry h
  obtain ⟨a, b, ks, rfl, rfl, ea, eb, q⟩ := h
  obtain rfl : v = Value.ref a := rx
  obtain rfl : u = Value.ref b := ry
  obtain ⟨_, ya, va, ra, da⟩ := dk_rd I.hok ea
  obtain ⟨_, yb, vb, rb, db⟩ := dk_rd I.hok eb
  cases rb
  refine PySem.W.keq_eq (knd := mixKind X.prog X.w) (r := true) ya yb da db hu (fun hl => ?_) (fin_bl I q ?_)
  · have : va = [] := List.length_eq_zero_iff.mp hl
    rw [this]
    exact .nil
  · have hl := KV.length ra
    cases ra with
    | nil => rfl
    | cons h t => rfl
end Sl
namespace Lw
open PySem PySem.Spec PyProof.Rows L2 Sl
section
variable {P : Program} {w : World} {K : PySem.W.Frag} {mg : Str → Option Value} {base : Heap} {f : Addr} {fd : FuncData}
/-- turns as they are told: each kind's list -/
abbrev TT' : Type := List (Str × Addr × List Str)
def tkv (t : Str × Addr × List Str) : Key × V := (.inr t.1, .ref t.2.1)
def TurnsAt (H : Hp) (d : Addr) (T : TT') : Prop := H d = some (.dK (T.map tkv)) ∧ (∀ t ∈ T, H t.2.1 = some (.lst (t.2.2.map V.str)))
structure PlanOk (xs : List Str) (T : TT') (B : NI) : Prop where
  tk : (T.map (·.1)).Sublist xs
  ta : (T.map (·.2.1)).Nodup
  tv : ∀ t ∈ T, t.2.2.length ≤ 3 ∧ ∀ z ∈ t.2.2, z ∈ xs
  bk : (ks B).Nodup
  bx : ∀ b ∈ B, b.1 ∈ xs ∧ 1 ≤ b.2 ∧ b.2 ≤ 9
  bl : B.length ≤ 3
def sp_plan (K : PySem.W.Frag) : Sp := fun vs H Q _ => ∃ (p l : Addr) (xs : List Str) (n : Nat), vs = [.ref p, .ref l] ∧ SrcAt H p n ∧ n ≤ 90000 ∧ SqL K H l (xs.map V.str) ∧ l ≠ p ∧ 1 ≤ xs.length ∧ xs.length ≤ 8 ∧ xs.Nodup ∧
  ∀ (t d e : Addr) (T : TT') (B : NI) (H' : Hp), PlanOk xs T B → H t = none → H d = none → H e = none → (∀ u ∈ T, H u.2.1 = none) → d ≠ e → H' t = some (.tup [.ref d, .ref e]) → TurnsAt H' d T → H' e = some (dI B) → SrcAt H' p (n + 100) → Keep p H H' → Q (.ref t) H'
abbrev planN : List Str := ["_law_source_here", "_law_kinds", "_law_turns", "_law_brings", "_law_kind", "_law_k"]
theorem putK_tkv (T : TT') (x : Str) (a : Addr) (ws : List Str) (h : x ∉ T.map (·.1)) : putK (T.map tkv) (.inr x) (.ref a) = (T ++ [(x, a, ws)]).map tkv := by
  unfold putK
  have hn : ((T.map tkv).any fun kv => decide (kv.1 = Sum.inr x)) = false := by
    rw [List.any_eq_false]
    intro kv hk e
    obtain ⟨t, ht, rfl⟩ := List.mem_map.mp hk
    exact h (List.mem_map.mpr ⟨t, ht, Sum.inr.inj (of_decide_eq_true e)⟩)
  rw [hn, if_neg Bool.false_ne_true, List.map_append]
  rfl
theorem gen_of {t U : TS} {D : Ends} {σ : L2.St} {H : Hp} {P : L2.St → Hp → Prop} (h1 : ∀ V : TS, (∀ σ' H', P σ' H' → V D σ' H') → tSeq t V D σ H) (h2 : ∀ σ' H', P σ' H' → U D σ' H') : tSeq t U D σ H := h1 U h2
theorem nxs_of {v : TS} {D D' : Ends} {σ : L2.St} {H : Hp} (h : v D σ H) : ({ D' with nx := v D } : Ends).nx σ H := h
theorem SrcAt.upd_ne' {H : Hp} {p q : Addr} {n : Nat} {o : HO} (h : SrcAt H p n) (ne : q ≠ p) : SrcAt (L2.upd H q o) p n := by
  obtain ⟨g, s, c, e, a⟩ := h
  exact ⟨g, s, c, by rw [upd_ne ne.symm]; exact e, a⟩
theorem SrcAt.keepq {H H' : Hp} {p q : Addr} {n : Nat} (h : SrcAt H p n) (k : Keep q H H') (ne : p ≠ q) : SrcAt H' p n := by
  obtain ⟨g, s, c, e, a⟩ := h
  exact ⟨g, s, c, k _ _ ne e, a⟩
/-- k names picked, a new list of them -/
theorem picks_of {σ : L2.St} {H1 : Hp} {p l D : Addr} {xs : List Str} {m n : Nat} {Qd : Hp → Prop} (h0 : σ[0]? = some (some (.ref p))) (hl' : σ[1]? = some (some (.ref l))) (h5 : 5 < σ.length) (hp : SrcAt H1 p n) (hn : n + m ≤ 100000) (hl : SqL K H1 l (xs.map V.str)) (nl : l ≠ p) (hx1 : 1 ≤ xs.length) (hx : xs.length ≤ 60) (hm : m ≤ 60) (hD : H1 D = none)
    (k : ∀ (ws : List Str) (H' : Hp), ws.length = m → (∀ z ∈ ws, z ∈ xs) → H' D = some (.lst (ws.map V.str)) → SrcAt H' p (n + m) → Keep p H1 H' → Qd H') :
    ∃ W : Nat → Nat → Hp → Prop, (∃ m, W 0 m (upd H1 D (.lst []))) ∧ ∀ i m' H, W i m' H → ((Itr 0 m).stop i H ∧ Qd H) ∨ ((Itr 0 m).go i H ∧ ∃ Nx : Hp → Prop, (∀ H', Nx H' → ∃ m'', m'' < m' ∧ W (i + 1) m'' H') ∧ ∀ x H', (Itr 0 m).yld i H x H' → gName 5 x (wipe σ [5]) H' fun σ2 H2 => wipe σ2 [5] = wipe σ [5] ∧ tYes σ2 H2 fun c H3 =>
        if c = true then tCall (sp_pick K) [] E0 (tCons (tVar 0) (tCons (tVar 1) tNil)) σ2 H3 fun y H4 => ∃ acc, H4 D = some (.lst acc) ∧ acc.length < sizeLine ∧ Nx (upd H4 D (.lst (acc ++ [y]))) else Nx H3) := by
  obtain ⟨po, hpo⟩ := hp.there
  have nD : D ≠ p := fun e => by rw [e, hpo] at hD; cases hD
  refine lc_range (lo := 0) (n := m) (fun i H' => SrcAt H' p (n + i) ∧ Keep p H1 H' ∧ ∃ ws : List Str, ws.length = i ∧ (∀ z ∈ ws, z ∈ xs) ∧ H' D = some (.lst (ws.map V.str))) ⟨hp.new hD, Keep.new hD, [], rfl, fun _ h => absurd h List.not_mem_nil, upd_same⟩ ?_ ?_
  · intro i H' hi ⟨hp1, kp, ws, lw, hw, hz⟩
    have w0 : ∀ x : V, ((wipe σ [5]).set 5 (some x))[0]? = some (some (.ref p)) := fun x => by
      show ((σ.set 5 none).set 5 (some x))[0]? = _
      rw [List.set_set, List.getElem?_set_ne (by decide)]
      exact h0
    have w1 : ∀ x : V, ((wipe σ [5]).set 5 (some x))[1]? = some (some (.ref l)) := fun x => by
      show ((σ.set 5 none).set 5 (some x))[1]? = _
      rw [List.set_set, List.getElem?_set_ne (by decide)]
      exact hl'
    refine ⟨?_, yes_of (iteT ?_)⟩
    · show ((σ.set 5 none).set 5 (some _)).set 5 none = σ.set 5 none
      rw [List.set_set, List.set_set]
    refine ⟨_, w0 _, _, w1 _, p, l, xs.map V.str, n + i, rfl, hp1, by omega, kp.seq nl hl, nl, by rw [List.length_map]; omega, by rw [List.length_map]; omega, fun v H2 mv hp2 k2 => ?_⟩
    obtain ⟨z, mz, rfl⟩ := List.mem_map.mp mv
    refine ⟨_, k2 _ _ nD hz, by rw [List.length_map, sizeLine_eq]; omega, ?_, ?_, ws ++ [z], by rw [List.length_append, lw]; rfl, ?_, ?_⟩
    · obtain ⟨g, sd, cc, e, y⟩ := hp2
      exact ⟨g, sd, cc, by rw [upd_ne nD.symm]; exact e, y⟩
    · intro b o nb e
      have nbD : b ≠ D := fun e2 => by rw [e2, hD] at e; cases e
      rw [upd_ne nbD]
      exact k2 _ _ nb (kp _ _ nb e)
    · intro y hy
      rcases List.mem_append.mp hy with h | h
      · exact hw y h
      · rw [List.mem_singleton.mp h]
        exact mz
    · rw [upd_same, List.map_append]
      rfl
  · intro H' ⟨hp1, kp, ws, lw, hw, hz⟩
    exact k ws H' lw hw hz hp1 kp
theorem strs_of {xs : List Str} : ∀ {vs : List V}, (∀ v ∈ vs, v ∈ xs.map V.str) → vs.Nodup → ∃ us : List Str, vs = us.map V.str ∧ us.Nodup ∧ ∀ u ∈ us, u ∈ xs
  | [], _, _ => ⟨[], rfl, List.nodup_nil, fun _ h => absurd h List.not_mem_nil⟩
  | v :: r, h, hn => by
    obtain ⟨h1, h2⟩ := List.nodup_cons.mp hn
    obtain ⟨us, e, n, hu⟩ := strs_of (fun v hv => h v (List.mem_cons_of_mem _ hv)) h2
    obtain ⟨x, hx, ex⟩ := List.mem_map.mp (h v List.mem_cons_self)
    refine ⟨x :: us, by rw [← ex, e]; rfl, List.nodup_cons.mpr ⟨fun hm => h1 ?_, n⟩, fun u hu' => ?_⟩
    · rw [← ex, e]
      exact List.mem_map.mpr ⟨x, hm, rfl⟩
    · rcases List.mem_cons.mp hu' with h | h
      · rw [h]
        exact hx
      · exact hu u h
theorem nodup_strs : ∀ {xs : List Str}, xs.Nodup → (xs.map V.str).Nodup
  | [], _ => List.nodup_nil
  | x :: r, h => by
    obtain ⟨h1, h2⟩ := List.nodup_cons.mp h
    refine List.nodup_cons.mpr ⟨fun hm => h1 ?_, nodup_strs h2⟩
    obtain ⟨y, hy, e⟩ := List.mem_map.mp hm
    exact V.str.inj e ▸ hy
theorem cutV_takeV (xs : List V) (k : Nat) : cutV xs none (some ((k : Nat) : Int)) = xs.take k := by
  unfold cutV
  rw [HT.sIx_nat, HT.sIx_none, List.drop_zero, Nat.sub_zero]
  rcases Nat.le_total k xs.length with h | h
  · rw [Nat.min_eq_left h]
  · rw [Nat.min_eq_right h, List.take_of_length_le (Nat.le_refl _), List.take_of_length_le h]
theorem ok_plan (F : FnP K "_law_plan" s_l_plan [] f fd) (D : Cal P w K mg base 1 "_law_draw" [] sp_draw) (Pk : Cal P w K mg base 2 "_law_pick" [] (sp_pick K)) (Sb : Cal P w K mg base 2 "_law_subset" [] (sp_subset K)) (So : Cal P w K mg base 3 "_law_some" [] (sp_some K)) (mR : mg "range" = none) :
    FnOk P w K mg base CX0 4 f fd ["_law_source_here", "_law_kinds"] (sp_plan K) := by
  refine F.ok sc_l_plan (fun vs H Q E h => ?_) (fun cdv A outer s H vs Q E hr h => ?_)
  · obtain ⟨p, l, xs, n, rfl, _⟩ := h
    rfl
  · obtain ⟨p, l, xs, n, rfl, hp, hn, hl, nl, h1, hx, hnd, k⟩ := h
    have nd := sc_l_plan.nd
    have hu := hu_of hr
    have hu' := Nat.lt_of_succ_lt hu
    have hr1 := hr.mono (show 1 ≤ 3 by decide)
    have hr2 := hr.mono (show 2 ≤ 3 by decide)
    refine ⟨_, PSs.nox (pss_cons (ps_par (i := 2) (j := 3) (by rfl) nd rfl rfl (by decide) rfl rfl (pa_cons pe_dnewK (pa_cons pe_dnewK pa_nil)) (by rfl))
      (pss_cons (ps_for PassesOwn.never rfl (pi_list (pe_cal Sb hr2 (pa_cons (pv 0) (pa_cons (pv 1) pa_nil)))) (pg_name (i := 4) nd rfl (Or.inl rfl))
        (pss_one (ps_dput hu (pv 2) (pv 4) (pe_lc (own := [("_law_k", 5)]) (g := gName 5) (tt := tYes) rfl nd (pi_range1 (by rfl) mR (pa_cons (pe_ix ix_list (pe_lst (pa_cons pe_int (pa_cons pe_int (pa_cons pe_int (pa_cons pe_int (pa_cons pe_int pa_nil)))))) (pe_cal D hr1 (pa_cons (pv 0) (pa_cons pe_int pa_nil))) (fun _ _ => rfl)) pa_nil))
          (blkOk_by (N := planN) (sc := defScope s_l_plan) (by decide +kernel)) (fun _ _ _ _ _ => pg_name (i := 5) nd rfl (Or.inl rfl)) (fun _ _ _ _ _ => pts_nil) (fun _ _ _ _ _ => pe_cal Pk hr2 (pa_cons (pv 0) (pa_cons (pv 1) pa_nil)))) rfl)))
      (pss_cons (ps_if (PW.pt (pw_or (pt_cmpR (op_eqEmp hu') (pv 2) pe_dnewK (nomark _)) (pw_or1 (pt_cmpR op_eq (pe_cal D hr1 (pa_cons (pv 0) (pa_cons pe_int pa_nil))) pe_int (nomark _)))))
        (pss_one (ps_for PassesOwn.never rfl (pi_list (pe_slice sl_list (pe_cal So hr (pa_cons (pv 0) (pa_cons (pv 1) pa_nil))) po_none (po_some (pe_ix ix_list (pe_lst (pa_cons pe_int (pa_cons pe_int (pa_cons pe_int (pa_cons pe_int (pa_cons pe_int pa_nil)))))) (pe_cal D hr1 (pa_cons (pv 0) (pa_cons pe_int pa_nil))) (fun _ _ => rfl))))) (pg_name (i := 4) nd rfl (Or.inl rfl))
          (pss_one (ps_dput hu (pv 3) (pv 4) (pe_ix ix_list (pe_lst (pa_cons pe_int (pa_cons pe_int (pa_cons pe_int (pa_cons pe_int (pa_cons pe_int pa_nil)))))) (pe_cal D hr1 (pa_cons (pv 0) (pa_cons pe_int pa_nil))) (fun _ _ => rfl)) rfl)))) pss_nil)
      (pss_one (ps_ret (pe_tup (pa_cons (pv 2) (pa_cons (pv 3) pa_nil)))))))), ?_⟩
    obtain ⟨po, hpo⟩ := hp.there
    show tSeq (tPar 2 3 (tCons tDNewK (tCons tDNewK tNil))) _ _ [some (V.ref p), some (V.ref l), none, none, none, none] H
    intro d hd e he
    refine ⟨_, _, rfl, nxs_of ?_⟩
    have ned : e ≠ d := fun x => by rw [x, upd_same] at he; cases he
    have he0 : H e = none := by rwa [upd_ne ned] at he
    have ndp : d ≠ p := fun x => by rw [x, hpo] at hd; cases hd
    have nep : e ≠ p := fun x => by rw [x, hpo] at he0; cases he0
    have hp1 : SrcAt (upd (upd H d (.dK [])) e (.dK [])) p n := (hp.new hd).new he
    have k1 : Keep p H (upd (upd H d (.dK [])) e (.dK [])) := (Keep.new hd).trans (Keep.new he)
    have fd1 : (upd (upd H d (.dK [])) e (.dK [])) d = some (.dK []) := by rw [upd_ne ned.symm, upd_same]
    have fe1 : (upd (upd H d (.dK [])) e (.dK [])) e = some (.dK []) := upd_same
    show tSeq (tFor (iList K (tCall (sp_subset K) [] E0 (tCons (tVar 0) (tCons (tVar 1) tNil)))) (gName 4) _) _ _ [some (V.ref p), some (V.ref l), some (V.ref d), some (V.ref e), none, none] (upd (upd H d (.dK [])) e (.dK []))
    generalize upd (upd H d (.dK [])) e (.dK []) = H1 at hp1 k1 fd1 fe1
    have lm : (xs.map V.str).length = xs.length := List.length_map _
    refine ⟨_, rfl, _, rfl, p, l, xs.map V.str, n, rfl, hp1, by omega, k1.seq nl hl, nl, by omega, fun q zs H2 sz hq hqe hp2 k2 => ⟨q, rfl, ⟨_, SqL.of hqe⟩, ?_⟩⟩
    obtain ⟨ys, sy, ez⟩ := List.sublist_map_iff.mp sz
    subst ez
    have ny : ys.Nodup := sy.nodup hnd
    have ly : ys.length ≤ 8 := Nat.le_trans sy.length_le hx
    obtain ⟨p1o, hp1o⟩ := hp1.there
    have nqp : q ≠ p := fun x => by rw [x, hp1o] at hq; cases hq
    have nqd : q ≠ d := fun x => by rw [x, fd1] at hq; cases hq
    have nqe : q ≠ e := fun x => by rw [x, fe1] at hq; cases hq
    have kk2 := k1.trans k2
    refine for_list (K := K) (a := q) (xs := ys.map V.str) (fun i σ H' => ∃ (y : Option V) (T : TT'), σ = [some (V.ref p), some (V.ref l), some (V.ref d), some (V.ref e), y, none] ∧ T.map (·.1) = ys.take i ∧ (T.map (·.2.1)).Nodup ∧ (∀ t ∈ T, t.2.2.length ≤ 3 ∧ ∀ z ∈ t.2.2, z ∈ xs) ∧ (∀ t ∈ T, H t.2.1 = none) ∧ TurnsAt H' d T ∧ H' e = some (.dK []) ∧ SrcAt H' p (n + 8 + 4 * i) ∧ Keep p H H' ∧ H' q = some (.lst (ys.map V.str)))
      ⟨none, [], rfl, rfl, List.nodup_nil, fun _ h => absurd h List.not_mem_nil, fun _ h => absurd h List.not_mem_nil, ⟨k2 _ _ ndp fd1, fun _ h => absurd h List.not_mem_nil⟩, k2 _ _ nep fe1, hp2.mono (by omega), kk2, hqe⟩ (fun i σ H' _ ⟨_, _, _, _, _, _, _, _, _, _, _, hq'⟩ => SqL.of hq') ?_ ?_
    · intro i x σ H' hx' ⟨y, T, es, hT1, hT2, hT3, hT4, ⟨hTd, hTl⟩, hE, hp3, k3, hq3⟩
      subst es
      rw [List.getElem?_map] at hx'
      obtain ⟨kd, ek, ex⟩ := Option.map_eq_some_iff.mp hx'
      subst ex
      have hi : i < ys.length := (List.getElem?_eq_some_iff.mp ek).1
      refine ⟨(by show 5 ≤ sizeLine; decide), fun a ha => ?_⟩
      obtain ⟨p3o, hp3o⟩ := hp3.there
      have nap : a ≠ p := fun x => by rw [x, hp3o] at ha; cases ha
      refine draw_of rfl (hp3.new ha) (by omega) (by decide) (by decide +kernel) fun j H4 j0 j1 hp4 k4 => ?_
      obtain ⟨v, hv, mv⟩ := at_in (xs := [V.int 0, .int 1, .int 1, .int 2, .int 3]) j0 j1
      have hm : ∃ m : Nat, v = .int (m : Int) ∧ m ≤ 3 := by
        simp only [List.mem_cons, List.not_mem_nil, or_false] at mv
        rcases mv with h | h | h | h | h <;> subst h
        · exact ⟨0, rfl, by decide⟩
        · exact ⟨1, rfl, by decide⟩
        · exact ⟨1, rfl, by decide⟩
        · exact ⟨2, rfl, by decide⟩
        · exact ⟨3, rfl, by decide⟩
      obtain ⟨m, rfl, m3⟩ := hm
      refine ⟨a, _, j, _, rfl, rfl, SqL.of (k4 _ _ nap upd_same), hv, (m : Int), rfl, by omega, by omega, fun Dd hD => ?_⟩
      have k34 : Keep p H' H4 := (Keep.new ha).trans k4
      refine picks_of (K := K) (σ := [some (V.ref p), some (V.ref l), some (V.ref d), some (V.ref e), some (V.str kd), none]) (m := m) rfl rfl (by show 5 < 6; decide) hp4 (by omega) ((k3.trans k34).seq nl hl) nl h1 (by omega) (by omega) hD ?_
      intro ws H5 lw hw hDw hp5 k5
      have k35 := k34.trans k5
      have hTd5 := k35 _ _ ndp hTd
      have tap : ∀ t ∈ T, t.2.1 ≠ p := fun t ht x => by
        have := hT4 t ht
        rw [x, hpo] at this
        cases this
      have fk : kd ∉ T.map (·.1) := by
        rw [hT1]
        intro hm
        have h1 : (ys.take (i + 1)).Nodup := List.Nodup.sublist (List.take_sublist _ _) ny
        rw [List.take_succ, ek, List.nodup_append] at h1
        exact h1.2.2 kd hm kd (List.mem_singleton.mpr rfl) rfl
      have lT : T.length = i := by
        have h2 : (T.map (·.1)).length = T.length := List.length_map _
        rw [← h2, hT1, List.length_take]
        omega
      have nDp : Dd ≠ p := fun x => by
        obtain ⟨o, ho⟩ := hp4.there
        rw [x, ho] at hD
        cases hD
      have frD : H Dd = none := by
        cases ee : H Dd with
        | none => rfl
        | some o => rw [k34 _ _ nDp (k3 _ _ nDp ee)] at hD; cases hD
      have nDd : Dd ≠ d := fun x => by rw [x, hTd5] at hDw; cases hDw
      refine ⟨_, rfl, _, rfl, d, _, rfl, DPut.k (k := .inr kd) hTd5 (by rw [List.length_map, lT, sizeLine_eq]; omega), ?_⟩
      rw [putK_tkv T kd Dd ws fk]
      refine ⟨_, T ++ [(kd, Dd, ws)], rfl, ?_, ?_, ?_, ?_, ⟨upd_same, ?_⟩, ?_, ?_, ?_, ?_⟩
      · rw [List.map_append, hT1, List.take_succ, ek]
        rfl
      · rw [List.map_append]
        refine List.nodup_append.mpr ⟨hT2, by simp, fun u hu v hv e => ?_⟩
        obtain ⟨t, ht, et⟩ := List.mem_map.mp hu
        have h3 := k34 _ _ (tap t ht) (hTl t ht)
        have h4 : v = Dd := List.mem_singleton.mp hv
        rw [et, e, h4, hD] at h3
        cases h3
      · intro t ht
        rcases List.mem_append.mp ht with h | h
        · exact hT3 t h
        · rw [List.mem_singleton.mp h]
          exact ⟨by show ws.length ≤ 3; omega, hw⟩
      · intro t ht
        rcases List.mem_append.mp ht with h | h
        · exact hT4 t h
        · rw [List.mem_singleton.mp h]
          exact frD
      · intro t ht
        rcases List.mem_append.mp ht with h | h
        · have h3 := k35 _ _ (tap t h) (hTl t h)
          have h4 : t.2.1 ≠ d := fun x => by rw [x, hTd5] at h3; cases h3
          rw [upd_ne h4]
          exact h3
        · rw [List.mem_singleton.mp h]
          show (upd H5 d _) Dd = _
          rw [upd_ne nDd]
          exact hDw
      · rw [upd_ne ned]
        exact k35 _ _ nep hE
      · exact Lw.SrcAt.upd_ne' (Sl.SrcAt.mono hp5 (show n + 8 + 4 * i + 1 + m ≤ n + 8 + 4 * (i + 1) by omega)) ndp
      · intro b o nb eb
        have nbd : b ≠ d := fun x => by rw [x, hd] at eb; cases eb
        rw [upd_ne nbd]
        exact k35 _ _ nb (k3 _ _ nb eb)
      · rw [upd_ne nqd]
        exact k35 _ _ nqp hq3
    · intro σ H' ⟨y, T, es, hT1, hT2, hT3, hT4, ⟨hTd, hTl⟩, hE, hp3, k3, hq3⟩
      subst es
      rw [List.length_map] at hT1 hp3
      rw [List.take_length] at hT1
      have hp4 : SrcAt H' p (n + 60) := hp3.mono (by omega)
      have oT : ∀ B : NI, (ks B).Nodup → (∀ b ∈ B, b.1 ∈ xs ∧ 1 ≤ b.2 ∧ b.2 ≤ 9) → B.length ≤ 3 → PlanOk xs T B := fun B h1 h2 h3 => ⟨by rw [hT1]; exact sy, hT2, hT3, h1, h2, h3⟩
      have tap : ∀ t ∈ T, t.2.1 ≠ p := fun t ht x => by
        have := hT4 t ht
        rw [x, hpo] at this
        cases this
      show tSeq (tIfS (tOr (tTest (tOp rEqEmp (tVar 2) tDNewK)) (tTest (tOp rEq (tCall sp_draw [] E0 (tCons (tVar 0) (tCons (tC (.int 3)) tNil))) (tC (.int 0))))) _ _) _ _ [some (V.ref p), some (V.ref l), some (V.ref d), some (V.ref e), y, none] H'
      refine gen_of (P := fun σ' Hz => ∃ (y : Option V) (B : NI), σ' = [some (V.ref p), some (V.ref l), some (V.ref d), some (V.ref e), y, none] ∧ (ks B).Nodup ∧ (∀ b ∈ B, b.1 ∈ xs ∧ 1 ≤ b.2 ∧ b.2 ≤ 9) ∧ B.length ≤ 3 ∧ TurnsAt Hz d T ∧ Hz e = some (dI B) ∧ SrcAt Hz p (n + 100) ∧ Keep p H Hz) (fun Z hZ => ?_) (fun σ' Hz hP => ?_)
      · have thenB : ∀ (Hy : Hp) (D : Ends), Keep p H' Hy → SrcAt Hy p (n + 61) → (∀ σ' Hz, (∃ (y : Option V) (B : NI), σ' = [some (V.ref p), some (V.ref l), some (V.ref d), some (V.ref e), y, none] ∧ (ks B).Nodup ∧ (∀ b ∈ B, b.1 ∈ xs ∧ 1 ≤ b.2 ∧ b.2 ≤ 9) ∧ B.length ≤ 3 ∧ TurnsAt Hz d T ∧ Hz e = some (dI B) ∧ SrcAt Hz p (n + 100) ∧ Keep p H Hz) → D.nx σ' Hz) →
            tFor (iList K (tSl (rSlL K) (tCall (sp_some K) [] E0 (tCons (tVar 0) (tCons (tVar 1) tNil))) tNoPart (tPart (tOp (rIxL K) (tLst (tCons (tC (.int 1)) (tCons (tC (.int 1)) (tCons (tC (.int 1)) (tCons (tC (.int 2)) (tCons (tC (.int 3)) tNil)))))) (tCall sp_draw [] E0 (tCons (tVar 0) (tCons (tC (.int 5)) tNil))))))) (gName 4)
              (sDPut (tVar 3) (tVar 4) (tOp (rIxL K) (tLst (tCons (tC (.int 1)) (tCons (tC (.int 1)) (tCons (tC (.int 2)) (tCons (tC (.int 3)) (tCons (tC (.int 9)) tNil)))))) (tCall sp_draw [] E0 (tCons (tVar 0) (tCons (tC (.int 5)) tNil))))) D [some (V.ref p), some (V.ref l), some (V.ref d), some (V.ref e), y, none] Hy := by
          intro Hy D ky hpy hN
          refine ⟨_, rfl, _, rfl, p, l, xs.map V.str, n + 61, rfl, hpy, by omega, (k3.trans ky).seq nl hl, nl, by omega, by omega, fun q2 FF zs H2 pF szF lz hq2 hq2e hp6 k6 => ?_⟩
          obtain ⟨oy, hoy⟩ := hpy.there
          have nq2 : q2 ≠ p := fun x => by rw [x, hoy] at hq2; cases hq2
          refine ⟨(by show 5 ≤ sizeLine; decide), fun a ha => ?_⟩
          obtain ⟨o6, ho6⟩ := hp6.there
          have nap : a ≠ p := fun x => by rw [x, ho6] at ha; cases ha
          refine draw_of rfl (hp6.new ha) (by omega) (by decide) (by decide +kernel) fun j H3 j0 j1 hp7 k7 => ?_
          obtain ⟨v, hv, mv⟩ := at_in (xs := [V.int 1, .int 1, .int 1, .int 2, .int 3]) j0 j1
          have hm : ∃ m : Nat, v = .int (m : Int) ∧ m ≤ 3 := by
            simp only [List.mem_cons, List.not_mem_nil, or_false] at mv
            rcases mv with h | h | h | h | h <;> subst h
            · exact ⟨1, rfl, by decide⟩
            · exact ⟨1, rfl, by decide⟩
            · exact ⟨1, rfl, by decide⟩
            · exact ⟨2, rfl, by decide⟩
            · exact ⟨3, rfl, by decide⟩
          obtain ⟨m, rfl, m3⟩ := hm
          have k37 : Keep p H2 H3 := (Keep.new ha).trans k7
          refine ⟨a, _, j, _, rfl, rfl, SqL.of (k7 _ _ nap upd_same), hv, _, rfl, q2, zs, rfl, SqL.of (k37 _ _ nq2 hq2e), fun b hb => ?_⟩
          rw [cutV_takeV]
          obtain ⟨us, eu, nu, hu⟩ := strs_of (xs := xs) (vs := zs.take m) (fun v hv => pF.mem_iff.mp (szF.subset (List.mem_of_mem_take hv))) (List.Nodup.sublist (List.take_sublist _ _) (szF.nodup (pF.nodup_iff.mpr (nodup_strs hnd))))
          have lu : us.length ≤ 3 := by
            have := congrArg List.length eu
            rw [List.length_map, List.length_take] at this
            omega
          rw [eu]
          refine ⟨b, rfl, ⟨_, SqL.of upd_same⟩, ?_⟩
          obtain ⟨o7, ho7⟩ := hp7.there
          have nbp : b ≠ p := fun x => by rw [x, ho7] at hb; cases hb
          have kb : Keep p H' (upd H3 b (.lst (us.map V.str))) := (ky.trans (k6.trans k37)).trans (Keep.new hb)
          have hd3 := (ky.trans (k6.trans k37)) _ _ ndp hTd
          have he3 := (ky.trans (k6.trans k37)) _ _ nep hE
          have nbd : b ≠ d := fun x => by rw [x, hd3] at hb; cases hb
          have nbe : b ≠ e := fun x => by rw [x, he3] at hb; cases hb
          have ub : (upd H3 b (.lst (us.map V.str))) b = some (.lst (us.map V.str)) := upd_same
          have hpb : SrcAt (upd H3 b (.lst (us.map V.str))) p (n + 80) := (hp7.new hb).mono (by omega)
          generalize upd H3 b (.lst (us.map V.str)) = H4 at kb ub hpb
          refine for_list (K := K) (a := b) (xs := us.map V.str) (fun i σ Hi => ∃ (y : Option V) (B : NI), σ = [some (V.ref p), some (V.ref l), some (V.ref d), some (V.ref e), y, none] ∧ ks B = us.take i ∧ (∀ r ∈ B, 1 ≤ r.2 ∧ r.2 ≤ 9) ∧ Hi e = some (dI B) ∧ SrcAt Hi p (n + 80 + i) ∧ (∀ c o, c ≠ p → c ≠ e → H4 c = some o → Hi c = some o))
            ⟨y, [], rfl, rfl, fun _ h => absurd h List.not_mem_nil, kb _ _ nep hE, hpb, fun c o _ _ h => h⟩ (fun i σ Hi _ ⟨_, _, _, _, _, _, _, kk⟩ => SqL.of (kk _ _ nbp nbe ub)) ?_ ?_
          · intro i x σ Hi hx' ⟨yy, B, es, hB, hBv, hBe, hpi, kk⟩
            subst es
            rw [List.getElem?_map] at hx'
            obtain ⟨kd, ek, ex⟩ := Option.map_eq_some_iff.mp hx'
            subst ex
            have hi : i < us.length := (List.getElem?_eq_some_iff.mp ek).1
            refine ⟨(by show 5 ≤ sizeLine; decide), fun a2 ha2 => ?_⟩
            obtain ⟨oi, hoi⟩ := hpi.there
            have nap2 : a2 ≠ p := fun x => by rw [x, hoi] at ha2; cases ha2
            refine draw_of rfl (hpi.new ha2) (by omega) (by decide) (by decide +kernel) fun j2 H5 j20 j21 hp8 k8 => ?_
            obtain ⟨v2, hv2, mv2⟩ := at_in (xs := [V.int 1, .int 1, .int 2, .int 3, .int 9]) j20 j21
            have hm2 : ∃ m : Int, v2 = .int m ∧ 1 ≤ m ∧ m ≤ 9 := by
              simp only [List.mem_cons, List.not_mem_nil, or_false] at mv2
              rcases mv2 with h | h | h | h | h <;> subst h
              · exact ⟨1, rfl, by decide, by decide⟩
              · exact ⟨1, rfl, by decide, by decide⟩
              · exact ⟨2, rfl, by decide, by decide⟩
              · exact ⟨3, rfl, by decide, by decide⟩
              · exact ⟨9, rfl, by decide, by decide⟩
            obtain ⟨m2, rfl, m21, m29⟩ := hm2
            have k58 : Keep p Hi H5 := (Keep.new ha2).trans k8
            have he5 := k58 _ _ nep hBe
            have fk : kd ∉ ks B := by
              rw [hB]
              intro hm
              have h1 : (us.take (i + 1)).Nodup := List.Nodup.sublist (List.take_sublist _ _) nu
              rw [List.take_succ, ek, List.nodup_append] at h1
              exact h1.2.2 kd hm kd (List.mem_singleton.mpr rfl) rfl
            have lB : B.length = i := by
              have h2 : (ks B).length = B.length := by unfold ks; rw [List.length_map]
              rw [← h2, hB, List.length_take]
              omega
            refine ⟨a2, _, j2, _, rfl, rfl, SqL.of (k8 _ _ nap2 upd_same), hv2, _, rfl, _, rfl, e, _, rfl, DPut.k (k := .inr kd) he5 (by rw [List.length_map, lB, sizeLine_eq]; omega), ?_⟩
            rw [putK_new B kd m2 fk]
            refine ⟨_, B ++ [(kd, m2)], rfl, ?_, ?_, upd_same, ?_, ?_⟩
            · unfold ks at hB ⊢
              rw [List.map_append, hB, List.take_succ, ek]
              rfl
            · intro r hr
              rcases List.mem_append.mp hr with h | h
              · exact hBv r h
              · rw [List.mem_singleton.mp h]
                exact ⟨m21, m29⟩
            · exact Lw.SrcAt.upd_ne' (Sl.SrcAt.mono hp8 (by omega)) nep
            · intro c o nc ne' hc
              rw [upd_ne ne']
              exact k58 _ _ nc (kk _ _ nc ne' hc)
          · intro σ Hi ⟨yy, B, es, hB, hBv, hBe, hpi, kk⟩
            subst es
            rw [List.length_map] at hB hpi
            rw [List.take_length] at hB
            have lB : B.length ≤ 3 := by
              have h2 : (ks B).length = B.length := by unfold ks; rw [List.length_map]
              rw [← h2, hB]
              exact lu
            refine hN _ _ ⟨yy, B, rfl, by rw [hB]; exact nu, fun r hr => ⟨hu _ (by rw [← hB]; exact List.mem_map.mpr ⟨r, hr, rfl⟩), hBv r hr⟩, lB, ⟨kk _ _ ndp ned.symm (kb _ _ ndp hTd), fun t ht => ?_⟩, hBe, hpi.mono (by omega), fun c o nc hc => ?_⟩
            · have h3 := hTl t ht
              exact kk _ _ (tap t ht) (fun x => by rw [x, hE] at h3; cases h3) (kb _ _ (tap t ht) h3)
            · exact kk _ _ nc (fun x => by rw [x, he0] at hc; cases hc) (kb _ _ nc (k3 _ _ nc hc))
        have fin : ∀ (Hy : Hp), Keep p H' Hy → SrcAt Hy p (n + 61) → ∃ (y : Option V) (B : NI), [some (V.ref p), some (V.ref l), some (V.ref d), some (V.ref e), y, none] = [some (V.ref p), some (V.ref l), some (V.ref d), some (V.ref e), y, none] ∧ (ks B).Nodup ∧ (∀ b ∈ B, b.1 ∈ xs ∧ 1 ≤ b.2 ∧ b.2 ≤ 9) ∧ B.length ≤ 3 ∧ TurnsAt Hy d T ∧ Hy e = some (dI B) ∧ SrcAt Hy p (n + 100) ∧ Keep p H Hy := fun Hy ky hpy =>
          ⟨y, [], rfl, List.nodup_nil, fun _ h => absurd h List.not_mem_nil, by decide, ⟨ky _ _ ndp hTd, fun t ht => ky _ _ (tap t ht) (hTl t ht)⟩, ky _ _ nep hE, hpy.mono (by omega), k3.trans ky⟩
        refine ifs_of (or_of (test_of ⟨_, rfl, fun z hz => ⟨d, z, T.map tkv, rfl, rfl, .inl (same_new hz _ _ hTd), .inl upd_same, _, rfl, ite_of (fun _ => iteT ?_) (fun _ => ?_)⟩⟩))
        · exact thenB _ _ (Keep.new hz) ((hp4.new hz).mono (by omega)) (fun σ' Hz h => hZ σ' Hz h)
        · refine test_of (draw_of rfl (hp4.new hz) (by omega) (by decide) (by decide +kernel) fun j H4 j0 j1 hp5 k5 => ⟨rfl, _, rfl, ite_of (fun _ => ?_) (fun _ => nx_of (hZ _ _ ?_))⟩)
          · exact thenB _ _ ((Keep.new hz).trans k5) (hp5.mono (by omega)) (fun σ' Hz h => hZ σ' Hz h)
          · obtain ⟨y2, B2, _, rest⟩ := fin H4 ((Keep.new hz).trans k5) (hp5.mono (by omega))
            exact ⟨y, B2, rfl, rest⟩
      · obtain ⟨y', B, es, hB1, hB2, hB3, ⟨hTz, hTlz⟩, hez, hpz, kz⟩ := hP
        subst es
        refine ⟨_, rfl, _, rfl, (by show 2 ≤ sizeLine; decide), fun t ht => ?_⟩
        obtain ⟨oz, hoz⟩ := hpz.there
        have ntp : t ≠ p := fun x => by rw [x, hoz] at ht; cases ht
        have frt : H t = none := by
          cases ee : H t with
          | none => rfl
          | some o => rw [kz _ _ ntp ee] at ht; cases ht
        exact k t d e T B _ (oT B hB1 hB2 hB3) frt hd he0 hT4 ned.symm upd_same ⟨same_new ht _ _ hTz, fun u hu => same_new ht _ _ (hTlz u hu)⟩ (same_new ht _ _ hez) (hpz.new ht) (kz.trans (Keep.new ht))
end
end Lw
/-! ## DicP -/
set_option Elab.async false
set_option linter.all false
set_option maxRecDepth 100000
set_option maxHeartbeats 4000000
namespace Sl
open PySem PySem.Spec PyProof.Rows L2
theorem nodup_perm {α : Type} [DecidableEq α] : ∀ {xs ys : List α}, xs.Nodup → ys.Nodup → (∀ a, a ∈ xs ↔ a ∈ ys) → xs.Perm ys
  | [], ys, _, _, h => by
    have : ys = [] := List.eq_nil_iff_forall_not_mem.mpr fun a ha => List.not_mem_nil ((h a).mpr ha)
    rw [this]
  | x :: xs, ys, hx, hy, h => by
    obtain ⟨h1, h2⟩ := List.nodup_cons.mp hx
    have hm : x ∈ ys := (h x).mp List.mem_cons_self
    refine (List.Perm.cons x (nodup_perm h2 (hy.erase x) fun a => ?_)).trans (List.perm_cons_erase hm).symm
    rw [List.Nodup.mem_erase_iff hy]
    constructor
    · intro ha
      exact ⟨fun e => h1 (e ▸ ha), (h a).mp (List.mem_cons_of_mem _ ha)⟩
    · rintro ⟨ne, ha⟩
      rcases List.mem_cons.mp ((h a).mpr ha) with e | q
      · exact absurd e ne
      · exact q
theorem perm_unique {α : Type} {le : α → α → Prop} (anti : ∀ a b, le a b → le b a → a = b) : ∀ {xs ys : List α}, xs.Perm ys → xs.Pairwise le → ys.Pairwise le → xs = ys
  | [], ys, h, _, _ => (List.nil_perm.mp h).symm
  | x :: xs, [], h, _, _ => absurd (List.perm_nil.mp h) (List.cons_ne_nil _ _)
  | x :: xs, y :: ys, h, h1, h2 => by
    obtain ⟨a1, a2⟩ := List.pairwise_cons.mp h1
    obtain ⟨b1, b2⟩ := List.pairwise_cons.mp h2
    have e : x = y := by
      have hx : x ∈ y :: ys := h.subset List.mem_cons_self
      have hy : y ∈ x :: xs := h.symm.subset List.mem_cons_self
      rcases List.mem_cons.mp hx with e | hx
      · exact e
      · rcases List.mem_cons.mp hy with e | hy
        · exact e.symm
        · exact anti _ _ (a1 y hy) (b1 x hx)
    subst e
    rw [perm_unique anti (List.Perm.cons_inv h) a2 b2]
def leS (a b : Str) : Prop := ¬ b.cps.toList < a.cps.toList
theorem leS_anti (a b : Str) (h1 : leS a b) (h2 : leS b a) : a = b := by
  have : a.cps.toList = b.cps.toList := List.le_antisymm (show ¬ _ from h1) (show ¬ _ from h2)
  exact Str.ext' (Array.toList_inj.mp this)
theorem leS_trans {a b c : Str} (h1 : leS a b) (h2 : leS b c) : leS a c := List.le_trans (show ¬ _ from h1) (show ¬ _ from h2)
theorem rising_pairwise : ∀ (l : List Str) (p : Str), risingS p l = true → (p :: l).Pairwise leS
  | [], p, _ => List.pairwise_singleton _ _
  | x :: r, p, h => by
    have h' : (!ltCps x.cps.toList p.cps.toList && risingS x r) = true := h
    obtain ⟨h1, h2⟩ := Bool.and_eq_true_iff.mp h'
    have ih := rising_pairwise r x h2
    have hle : leS p x := by
      rw [ltCps_eq] at h1
      intro hlt
      rw [decide_eq_true hlt] at h1
      cases h1
    refine List.pairwise_cons.mpr ⟨fun y hy => ?_, ih⟩
    rcases List.mem_cons.mp hy with e | hy
    · rw [e]
      exact hle
    · exact leS_trans hle ((List.pairwise_cons.mp ih).1 y hy)
theorem sorted_pairwise {l : List Str} (h : sortedS l = true) : l.Pairwise leS := by
  cases l with
  | nil => exact List.Pairwise.nil
  | cons x r => exact rising_pairwise r x h
/-! ### the same entries -/
theorem ks_perm {A B : NI} (h : A.Perm B) : (ks A).Perm (ks B) := h.map _
theorem get?_perm {A B : NI} (h : A.Perm B) (ha : (ks A).Nodup) (x : Str) : get? A x = get? B x := by
  have hb : (ks B).Nodup := (ks_perm h).nodup_iff.mp ha
  cases e : get? A x with
  | none =>
    refine (get?_none.mpr fun hm => (get?_none.mp e) ((ks_perm h).mem_iff.mpr hm)).symm
  | some i => exact (get?_of hb (h.mem_iff.mp (get?_mem e))).symm
theorem get0_perm {A B : NI} (h : A.Perm B) (ha : (ks A).Nodup) (x : Str) : get0 A x = get0 B x := by
  unfold get0
  rw [get?_perm h ha]
def noZ (A : NI) : Prop := ∀ p ∈ A, p.2 ≠ 0
theorem nz_noZ (A : NI) : noZ (nz A) := fun p hp => by simpa using (List.mem_filter.mp hp).2
theorem entry_iff {A : NI} (ha : (ks A).Nodup) (za : noZ A) (p : Str × Int) : p ∈ A ↔ p.2 ≠ 0 ∧ get0 A p.1 = p.2 := by
  constructor
  · intro h
    refine ⟨za p h, ?_⟩
    unfold get0
    rw [get?_of ha (show (p.1, p.2) ∈ A from h)]
    rfl
  · rintro ⟨h1, h2⟩
    unfold get0 at h2
    cases e : get? A p.1 with
    | none => rw [e] at h2; exact absurd h2.symm h1
    | some i =>
      rw [e] at h2
      have e2 : i = p.2 := h2
      subst e2
      exact get?_mem e
theorem nodup_of_ks : ∀ {A : NI}, (ks A).Nodup → A.Nodup
  | [], _ => List.nodup_nil
  | p :: r, h => by
    obtain ⟨h1, h2⟩ := List.nodup_cons.mp (show (p.1 :: ks r).Nodup from h)
    exact List.nodup_cons.mpr ⟨fun hm => h1 (List.mem_map.mpr ⟨p, hm, rfl⟩), nodup_of_ks h2⟩
theorem perm_of_get0 {A B : NI} (ha : (ks A).Nodup) (hb : (ks B).Nodup) (za : noZ A) (zb : noZ B) (h : ∀ x, get0 A x = get0 B x) : A.Perm B := by
  have na : A.Nodup := nodup_of_ks ha
  have nb : B.Nodup := nodup_of_ks hb
  refine nodup_perm na nb fun p => ?_
  rw [entry_iff ha za, entry_iff hb zb, h]
theorem sum_nz : ∀ A : NI, ((nz A).map (·.2)).sum = (A.map (·.2)).sum
  | [] => rfl
  | p :: r => by
    have ih := sum_nz r
    by_cases h : p.2 = 0
    · have : nz (p :: r) = nz r := List.filter_cons_of_neg (by simpa using h)
      rw [this, ih, List.map_cons, List.sum_cons, h, Int.zero_add]
    · have : nz (p :: r) = p :: nz r := List.filter_cons_of_pos (by simpa using h)
      rw [this, List.map_cons, List.sum_cons, ih, List.map_cons, List.sum_cons]
theorem sum_perm {A B : List Int} (h : A.Perm B) : A.sum = B.sum := by
  induction h with
  | nil => rfl
  | cons x _ ih => rw [List.sum_cons, List.sum_cons, ih]
  | swap x y l => rw [List.sum_cons, List.sum_cons, List.sum_cons, List.sum_cons]; omega
  | trans _ _ h1 h2 => exact h1.trans h2
end Sl
/-! ## CnM -/
set_option Elab.async false
set_option linter.all false
set_option maxRecDepth 100000
set_option maxHeartbeats 4000000
namespace Sl
open PySem PySem.Spec PyProof.Rows L2
/-- names in order, none of them nought -/
structure Cn (A : NI) : Prop where
  so : (ks A).Pairwise leS
  nz : noZ A
  nd : (ks A).Nodup
theorem val_of {A : NI} (n : (ks A).Nodup) {q : Str × Int} (h : q ∈ A) : get0 A q.1 = q.2 := by
  unfold get0
  rw [get?_of n (show (q.1, q.2) ∈ A from h)]
  rfl
theorem eq_map_get {A : NI} (h : (ks A).Nodup) : A = (ks A).map fun x => (x, get0 A x) := by
  unfold ks
  rw [List.map_map]
  have : ∀ q ∈ A, ((fun x => (x, get0 A x)) ∘ fun p : Str × Int => p.1) q = q := fun q hq => by
    show (q.1, get0 A q.1) = q
    rw [val_of h hq]
  conv => lhs; rw [← List.map_id A]
  exact List.map_congr_left fun q hq => (this q hq).symm
theorem cn_eq {A B : NI} (ha : Cn A) (hb : Cn B) (h : ∀ x, get0 A x = get0 B x) : A = B := by
  have p := ks_perm (perm_of_get0 ha.nd hb.nd ha.nz hb.nz h)
  have e : ks A = ks B := perm_unique leS_anti p ha.so hb.so
  rw [eq_map_get ha.nd, eq_map_get hb.nd, e]
  exact List.map_congr_left fun x _ => by rw [h]
def lessL (N : NI) (ys : List Str) : NI := (ys.filter fun x => decide (get0 N x ≠ 0)).map fun x => (x, get0 N x)
theorem ks_lessL (N : NI) (ys : List Str) : ks (lessL N ys) = ys.filter fun x => decide (get0 N x ≠ 0) := ks_map _ _
theorem lessL_cn {N : NI} {ys : List Str} (hn : (ks N).Nodup) (pm : ys.Perm (ks N)) (so : sortedS ys = true) : Cn (lessL N ys) := by
  refine ⟨?_, ?_, ?_⟩
  · rw [ks_lessL]
    exact (sorted_pairwise so).filter _
  · intro q hq
    obtain ⟨x, hx, e⟩ := List.mem_map.mp hq
    subst e
    simpa using (List.mem_filter.mp hx).2
  · rw [ks_lessL]
    exact List.Nodup.sublist List.filter_sublist (pm.nodup_iff.mpr hn)
theorem lessL_get {N : NI} {ys : List Str} (hn : (ks N).Nodup) (pm : ys.Perm (ks N)) (x : Str) : get0 (lessL N ys) x = get0 N x := by
  unfold lessL
  rw [get0_map (List.Nodup.sublist List.filter_sublist (pm.nodup_iff.mpr hn))]
  split
  · rfl
  · rename_i h
    by_cases hx : x ∈ ks N
    · by_cases h0 : get0 N x = 0
      · exact h0.symm
      · exact absurd (List.mem_filter.mpr ⟨pm.mem_iff.mpr hx, by simpa using h0⟩) h
    · exact (get0_none hx).symm
theorem lessL_sub {N : NI} {ys : List Str} (pm : ys.Perm (ks N)) {x : Str} (h : x ∈ ks (lessL N ys)) : x ∈ ks N := by
  rw [ks_lessL] at h
  exact pm.mem_iff.mp (List.mem_filter.mp h).1
theorem ks_len (A : NI) : (ks A).length = A.length := by
  unfold ks
  rw [List.length_map]
theorem lessL_len {N : NI} {ys : List Str} (pm : ys.Perm (ks N)) : (lessL N ys).length ≤ N.length := by
  rw [← ks_len, ks_lessL]
  have := List.length_filter_le (fun x => decide (get0 N x ≠ 0)) ys
  rw [pm.length_eq, ks_len] at this
  exact this
theorem cn_nil : Cn [] := ⟨List.Pairwise.nil, fun _ h => absurd h List.not_mem_nil, List.nodup_nil⟩
/-- the dict as it grows, turn by turn -/
theorem lessL_take {N : NI} {ys : List Str} {i : Nat} {x : Str} (h : ys[i]? = some x) : lessL N (ys.take (i + 1)) = lessL N (ys.take i) ++ (if get0 N x ≠ 0 then [(x, get0 N x)] else []) := by
  unfold lessL
  rw [List.take_succ, h, List.filter_append, List.map_append]
  congr 1
  show List.map _ ([x].filter _) = _
  by_cases h0 : get0 N x = 0
  · rw [List.filter_cons_of_neg (by simpa using h0), if_neg (by simpa using h0)]
    rfl
  · rw [List.filter_cons_of_pos (by simpa using h0), if_pos h0]
    rfl
theorem get?_in {M : NI} {x : Str} (h : x ∈ ks M) : get? M x = some (get0 M x) := by
  unfold get0
  cases e : get? M x with
  | none => exact absurd h (get?_none.mp e)
  | some i => rfl
/-- values below 2 ^ b -/
def bd (b : Nat) (A : NI) : Prop := ∀ x, (get0 A x).natAbs < 2 ^ b
theorem eqI_cn {A B : NI} (ha : Cn A) (hb : Cn B) : eqI A B = true ↔ ∀ x, get0 A x = get0 B x := by
  rw [eqI_iff ha.nd hb.nd]
  constructor
  · intro h x
    unfold get0
    rw [h x]
  · intro h x
    rw [cn_eq ha hb h]
/-- a word that may stand in a form -/
def nameIn (z : Str) : Str := if Txt.startswith z "old." || Txt.startswith z "new." then cutS z (some 4) none else z
def wordB (z : Str) : Bool := nameB (nameIn z)
theorem starts_eq (x y : Str) : Txt.startswith x y = (decide (y.length ≤ x.length) && (x.cps.toList.take y.length == y.cps.toList)) := by
  unfold Txt.startswith
  rw [StrLaws.subAt_eq, List.drop_zero, Nat.zero_add]
theorem starts_mem {x y : Str} (h : Txt.startswith x y = true) {c : Nat} (hc : c ∈ y.cps.toList) : c ∈ x.cps.toList := by
  rw [starts_eq] at h
  have h2 := (Bool.and_eq_true_iff.mp h).2
  rw [← eq_of_beq h2] at hc
  exact List.mem_of_mem_take hc
theorem name_nodot {z : Str} (h : nameB z = true) {y : Str} (hy : (46 : Nat) ∈ y.cps.toList) : Txt.startswith z y = false := by
  cases e : Txt.startswith z y with
  | false => rfl
  | true =>
    have := nameB_all h 46 (starts_mem e hy)
    exact absurd this (by decide +kernel)
theorem nameIn_name {z : Str} (h : nameB z = true) : nameIn z = z := by
  unfold nameIn
  rw [name_nodot h (show (46 : Nat) ∈ ("old." : Str).cps.toList by decide +kernel), name_nodot h (show (46 : Nat) ∈ ("new." : Str).cps.toList by decide +kernel)]
  rfl
theorem tl_cut4 {z : Str} : TL.tl (cutS z (some 4) none) = (TL.tl z).drop 4 := by
  have e1 : HT.sIx z.length 0 (some 4) = min 4 z.length := HT.sIx_nat ..
  have e2 : HT.sIx z.length z.length none = z.length := rfl
  show ((z.cps.toList.drop (HT.sIx z.length 0 (some 4))).take (HT.sIx z.length z.length none - HT.sIx z.length 0 (some 4))).toArray.toList = _
  rw [e1, e2]
  have l := TL.len_tl z
  show List.take (z.length - min 4 z.length) (List.drop (min 4 z.length) (TL.tl z)) = _
  rcases Nat.le_total 4 z.length with h | h
  · rw [Nat.min_eq_left h, List.take_of_length_le]
    rw [List.length_drop]
    omega
  · rw [Nat.min_eq_right h, List.drop_of_length_le (by omega), List.drop_of_length_le (by omega), List.take_nil]
theorem starts_self (a y : Str) : Txt.startswith (a ++ y) a = true := by
  rw [starts_eq]
  have e : (a ++ y).cps.toList = a.cps.toList ++ y.cps.toList := tl_app a y
  have la : a.cps.toList.length = a.length := Array.length_toList
  rw [e, ← la, List.take_left, beq_self_eq_true, Bool.and_true]
  exact decide_eq_true (by rw [PySem.Str.length_append]; omega)
theorem nameIn_lot (a y : Str) (ha : a = "old." ∨ a = "new.") : nameIn (a ++ y) = y := by
  have h : (Txt.startswith (a ++ y) "old." || Txt.startswith (a ++ y) "new.") = true := by
    rcases ha with e | e <;> subst e
    · rw [starts_self, Bool.true_or]
    · rw [starts_self, Bool.or_true]
  unfold nameIn
  rw [if_pos h]
  refine TL.ext_tl ?_
  rw [tl_cut4, tl_app]
  have l4 : (TL.tl a).length = 4 := by rcases ha with e | e <;> subst e <;> decide +kernel
  rw [← l4, List.drop_left]
theorem word_name {z : Str} (h : nameB z = true) : wordB z = true := by
  unfold wordB
  rw [nameIn_name h]
  exact h
theorem word_lot {a y : Str} (ha : a = "old." ∨ a = "new.") (h : nameB y = true) : wordB (a ++ y) = true := by
  unfold wordB
  rw [nameIn_lot a y ha]
  exact h
end Sl
/-! ## SlGen -/
set_option Elab.async false
set_option linter.all false
set_option maxRecDepth 100000
set_option maxHeartbeats 4000000
/-! lists of names and things: what a name has, equality by names -/
namespace Sl
open PySem PySem.Spec PyProof.Rows L2
section
variable {α : Type}
abbrev NG (α : Type) : Type := List (Str × α)
def kg (A : NG α) : List Str := A.map (·.1)
def gl (A : NG α) (x : Str) : Option α := (A.find? fun p => decide (p.1 = x)).map (·.2)
theorem kg_len (A : NG α) : (kg A).length = A.length := List.length_map _
theorem gl_mem {A : NG α} {x : Str} {i : α} (h : gl A x = some i) : (x, i) ∈ A := by
  unfold gl at h
  cases e : A.find? fun p => decide (p.1 = x) with
  | none => rw [e] at h; cases h
  | some p =>
    rw [e] at h
    have h1 := List.mem_of_find?_eq_some e
    have h2 : p.1 = x := by simpa using List.find?_some e
    have h3 : p.2 = i := Option.some.inj h
    rw [← h2, ← h3]
    exact h1
theorem gl_none {A : NG α} {x : Str} : gl A x = none ↔ x ∉ kg A := by
  unfold gl kg
  rw [Option.map_eq_none_iff, List.find?_eq_none]
  constructor
  · intro h hm
    obtain ⟨p, hp, e⟩ := List.mem_map.mp hm
    exact h p hp (by simpa using e)
  · intro h p hp e
    exact h (List.mem_map.mpr ⟨p, hp, by simpa using e⟩)
theorem gl_of {A : NG α} {x : Str} {i : α} (h : (kg A).Nodup) (hm : (x, i) ∈ A) : gl A x = some i := by
  induction A with
  | nil => cases hm
  | cons p r ih =>
    have h' : p.1 ∉ kg r ∧ (kg r).Nodup := List.nodup_cons.mp h
    rcases List.mem_cons.mp hm with e | hr
    · subst e
      show ((((x, i) : Str × α) :: r).find? fun p => decide (p.1 = x)).map (·.2) = some i
      rw [List.find?_cons_of_pos (by simp)]
      rfl
    · have ne : p.1 ≠ x := fun e => h'.1 (List.mem_map.mpr ⟨(x, i), hr, e.symm⟩)
      have := ih h'.2 hr
      unfold gl at this ⊢
      rw [List.find?_cons_of_neg (by simpa using ne)]
      exact this
theorem kg_perm {A B : NG α} (h : A.Perm B) : (kg A).Perm (kg B) := h.map _
theorem gl_perm {A B : NG α} (h : A.Perm B) (ha : (kg A).Nodup) (x : Str) : gl A x = gl B x := by
  have hb : (kg B).Nodup := (kg_perm h).nodup_iff.mp ha
  cases e : gl A x with
  | none => exact (gl_none.mpr fun hm => (gl_none.mp e) ((kg_perm h).mem_iff.mpr hm)).symm
  | some i => exact (gl_of hb (h.mem_iff.mp (gl_mem e))).symm
theorem eq_map_gl {A B : NG α} (ha : (kg A).Nodup) (hb : (kg B).Nodup) (hk : kg A = kg B) (h : ∀ x, gl A x = gl B x) : A = B := by
  refine List.ext_getElem? fun i => ?_
  have hl : A.length = B.length := by rw [← kg_len, hk, kg_len]
  by_cases hi : i < A.length
  · have hj : i < B.length := by omega
    rw [List.getElem?_eq_getElem hi, List.getElem?_eq_getElem hj]
    have k1 : (kg A)[i]? = some A[i].1 := by unfold kg; rw [List.getElem?_map, List.getElem?_eq_getElem hi]; rfl
    have k2 : (kg B)[i]? = some B[i].1 := by unfold kg; rw [List.getElem?_map, List.getElem?_eq_getElem hj]; rfl
    rw [hk, k2] at k1
    have e1 : B[i].1 = A[i].1 := Option.some.inj k1
    have g1 := gl_of ha (show (A[i].1, A[i].2) ∈ A from List.getElem_mem hi)
    have g2 := gl_of hb (show (B[i].1, B[i].2) ∈ B from List.getElem_mem hj)
    rw [h, ← e1, g2] at g1
    have e2 : B[i].2 = A[i].2 := Option.some.inj g1
    exact congrArg some (Prod.ext e1.symm e2.symm)
  · rw [List.getElem?_eq_none (by omega), List.getElem?_eq_none (by omega)]
/-- in the order of the names -/
structure Cg (A : NG α) : Prop where
  so : (kg A).Pairwise leS
  nd : (kg A).Nodup
theorem cg_eq {A B : NG α} (ha : Cg A) (hb : Cg B) (h : ∀ x, gl A x = gl B x) : A = B := by
  have hk : kg A = kg B := perm_unique leS_anti (nodup_perm ha.nd hb.nd fun x => by
    have e := h x
    constructor
    · intro hx
      exact Classical.byContradiction fun n => (gl_none.mp (by rw [e]; exact gl_none.mpr n)) hx
    · intro hx
      exact Classical.byContradiction fun n => (gl_none.mp (by rw [← e]; exact gl_none.mpr n)) hx) ha.so hb.so
  exact eq_map_gl ha.nd hb.nd hk h
theorem cg_perm {A B : NG α} (ha : Cg A) (hb : Cg B) (h : A.Perm B) : A = B := cg_eq ha hb (gl_perm h ha.nd)
variable [DecidableEq α]
def okG (B : NG α) (p : Str × α) : Bool := match gl B p.1 with
  | some y => decide (p.2 = y)
  | none => false
def allG (A B : NG α) : Bool := A.all (okG B)
def eqG (A B : NG α) : Bool := (A.length == B.length) && allG A B
theorem eqG_iff {A B : NG α} (ha : (kg A).Nodup) (hb : (kg B).Nodup) : eqG A B = true ↔ ∀ x, gl A x = gl B x := by
  have hall : allG A B = true ↔ ∀ p ∈ A, gl B p.1 = some p.2 := by
    unfold allG
    rw [List.all_eq_true]
    constructor
    · intro h p hp
      have e := h p hp
      unfold okG at e
      cases g : gl B p.1 with
      | none => rw [g] at e; cases e
      | some i =>
        rw [g] at e
        rw [show p.2 = i by simpa using e]
    · intro h p hp
      unfold okG
      rw [h p hp]
      simp
  unfold eqG
  rw [Bool.and_eq_true, hall, beq_iff_eq]
  constructor
  · rintro ⟨hl, h⟩ x
    have sub : ∀ y ∈ kg A, y ∈ kg B := fun y hy => by
      obtain ⟨p, hp, e⟩ := List.mem_map.mp hy
      exact List.mem_map.mpr ⟨(p.1, p.2), gl_mem (h p hp), e⟩
    cases e : gl A x with
    | some i => rw [h (x, i) (gl_mem e)]
    | none =>
      have hx := gl_none.mp e
      cases e2 : gl B x with
      | none => rfl
      | some j =>
        exfalso
        have hxb : x ∈ kg B := List.mem_map.mpr ⟨(x, j), gl_mem e2, rfl⟩
        obtain ⟨y, hy, hny⟩ := one_not_in (x :: kg A) (kg B) (List.nodup_cons.mpr ⟨hx, ha⟩) (by rw [List.length_cons, kg_len, kg_len]; omega)
        rcases List.mem_cons.mp hy with e3 | e3
        · exact hny (e3 ▸ hxb)
        · exact hny (sub y e3)
  · intro h
    have hk : ∀ {A B : NG α}, (kg A).Nodup → (∀ x, gl A x = gl B x) → A.length ≤ B.length := by
      intro A B ha h
      rcases Nat.lt_or_ge B.length A.length with hlt | hge
      · exfalso
        obtain ⟨y, hy, hny⟩ := one_not_in (kg A) (kg B) ha (by rw [kg_len, kg_len]; exact hlt)
        obtain ⟨p, hp, e⟩ := List.mem_map.mp hy
        have e1 := gl_of ha (show (p.1, p.2) ∈ A from hp)
        rw [h p.1] at e1
        exact hny (List.mem_map.mpr ⟨(p.1, p.2), gl_mem e1, e⟩)
      · exact hge
    refine ⟨Nat.le_antisymm (hk ha h) (hk hb fun x => (h x).symm), fun p hp => ?_⟩
    rw [← h p.1]
    exact gl_of ha hp
theorem eqG_refl {A : NG α} (h : (kg A).Nodup) : eqG A A = true := (eqG_iff h h).mpr fun _ => rfl
theorem eqG_perm {A B A' B' : NG α} (hA : A.Perm A') (hB : B.Perm B') (a : (kg A).Nodup) (b : (kg B).Nodup) : eqG A B = eqG A' B' := by
  rw [Bool.eq_iff_iff, eqG_iff a b, eqG_iff ((kg_perm hA).nodup_iff.mp a) ((kg_perm hB).nodup_iff.mp b)]
  have e1 := gl_perm hA a
  have e2 := gl_perm hB b
  exact ⟨fun h x => by rw [← e1, ← e2, h], fun h x => by rw [e1, e2, h]⟩
end
/-! ### the keys of two dicts together -/
open Classical in
theorem putK_keys (A : List (Key × V)) (k : Key) (v : V) : ((putK A k v).map (·.1)) = if k ∈ A.map (·.1) then A.map (·.1) else A.map (·.1) ++ [k] := by
  unfold putK
  by_cases h : k ∈ A.map (·.1)
  · have hn : (A.any fun kv => decide (kv.1 = k)) = true := by
      obtain ⟨p, hp, e⟩ := List.mem_map.mp h
      exact List.any_eq_true.mpr ⟨p, hp, decide_eq_true e⟩
    rw [if_pos h, if_pos hn, List.map_map]
    refine List.map_congr_left fun p _ => ?_
    show (if p.1 = k then (p.1, v) else p).1 = p.1
    split <;> rfl
  · have hn : (A.any fun kv => decide (kv.1 = k)) = false := by
      rw [List.any_eq_false]
      intro kv hk e
      exact h (List.mem_map.mpr ⟨kv, hk, of_decide_eq_true e⟩)
    rw [if_neg h, hn, if_neg Bool.false_ne_true, List.map_append]
    rfl
theorem mergeK_keys : ∀ (B A : List (Key × V)), (A.map (·.1)).Nodup → ((mergeK A B).map (·.1)).Nodup ∧ (∀ y, y ∈ (mergeK A B).map (·.1) ↔ y ∈ A.map (·.1) ∨ y ∈ B.map (·.1)) ∧ (mergeK A B).length ≤ A.length + B.length
  | [], A, h => ⟨h, fun y => ⟨.inl, fun q => q.elim id fun q => absurd q List.not_mem_nil⟩, Nat.le_refl _⟩
  | p :: r, A, h => by
    have e := putK_keys A p.1 p.2
    have h1 : ((putK A p.1 p.2).map (·.1)).Nodup ∧ (∀ y, y ∈ (putK A p.1 p.2).map (·.1) ↔ y ∈ A.map (·.1) ∨ y = p.1) ∧ (putK A p.1 p.2).length ≤ A.length + 1 := by
      have hl : ((putK A p.1 p.2).map (·.1)).length = (putK A p.1 p.2).length := List.length_map _
      rw [e] at hl ⊢
      by_cases hm : p.1 ∈ A.map (·.1)
      · rw [if_pos hm] at hl ⊢
        rw [List.length_map] at hl
        refine ⟨h, fun y => ⟨.inl, fun q => q.elim id fun q => q ▸ hm⟩, by omega⟩
      · rw [if_neg hm] at hl ⊢
        rw [List.length_append, List.length_map] at hl
        refine ⟨List.nodup_append.mpr ⟨h, by simp, fun a ha b hb e => hm ?_⟩, fun y => by simp, ?_⟩
        · rw [← List.mem_singleton.mp hb, ← e]
          exact ha
        · simp only [List.length_cons, List.length_nil] at hl
          omega
    obtain ⟨a1, a2, a3⟩ := h1
    obtain ⟨b1, b2, b3⟩ := mergeK_keys r (putK A p.1 p.2) a1
    refine ⟨b1, fun y => ?_, ?_⟩
    · show y ∈ (mergeK (putK A p.1 p.2) r).map (·.1) ↔ _
      rw [b2, a2, List.map_cons, List.mem_cons, or_assoc]
    · show (mergeK (putK A p.1 p.2) r).length ≤ A.length + (r.length + 1)
      omega
theorem mergeK_apart : ∀ (B A : List (Key × V)), (∀ k ∈ B.map (·.1), k ∉ A.map (·.1)) → (B.map (·.1)).Nodup → mergeK A B = A ++ B
  | [], A, _, _ => (List.append_nil A).symm
  | p :: r, A, h, hn => by
    obtain ⟨n1, n2⟩ := List.nodup_cons.mp (show (p.1 :: r.map (·.1)).Nodup from hn)
    have hp := h p.1 List.mem_cons_self
    have e : putK A p.1 p.2 = A ++ [p] := by
      unfold putK
      have hn : (A.any fun kv => decide (kv.1 = p.1)) = false := by
        rw [List.any_eq_false]
        intro kv hk e
        exact hp (List.mem_map.mpr ⟨kv, hk, of_decide_eq_true e⟩)
      rw [hn, if_neg Bool.false_ne_true]
    show mergeK (putK A p.1 p.2) r = _
    rw [e, mergeK_apart r (A ++ [p]) (fun k hk hm => ?_) n2, List.append_assoc]
    · rfl
    · rw [List.map_append] at hm
      rcases List.mem_append.mp hm with q | q
      · exact h k (List.mem_cons_of_mem _ hk) q
      · have : k = p.1 := by simpa using q
        exact n1 (this ▸ hk)
end Sl
/-! ## SlTur -/
set_option Elab.async false
set_option linter.all false
set_option maxRecDepth 100000
set_option maxHeartbeats 4000000
set_option pp.deepTerms false
set_option pp.maxSteps 400
namespace Sl
open PySem PySem.Spec PyProof.Rows L2 Lw
/-- the content of turns -/
abbrev CT : Type := NG (List Str)
def ct (T : TT') : CT := T.map fun t => (t.1, t.2.2)
theorem kg_ct (T : TT') : kg (ct T) = T.map (·.1) := by
  unfold kg ct
  rw [List.map_map]
  rfl
theorem keys_tkv (T : TT') : (T.map tkv).map (·.1) = (kg (ct T)).map Sum.inr := by
  rw [kg_ct, List.map_map, List.map_map]
  rfl
/-- turns told by tuples -/
theorem strs_inj : ∀ {xs ys : List Str}, xs.map V.str = ys.map V.str → xs = ys
  | [], [], _ => rfl
  | [], _ :: _, h => by cases h
  | _ :: _, [], h => by cases h
  | x :: xs, y :: ys, h => by
    injection h with h1 h2
    rw [V.str.inj h1, strs_inj h2]
theorem eqvAll_strs : ∀ xs ys : List Str, PyData.eqvAll (xs.map PyData.str) (ys.map PyData.str) = decide (xs = ys)
  | [], [] => by simp [PyData.eqvAll]
  | [], _ :: _ => by simp [PyData.eqvAll]
  | _ :: _, [] => by simp [PyData.eqvAll]
  | a :: r, b :: t => by
    have ih := eqvAll_strs r t
    rw [List.map_cons, List.map_cons, PyData.eqvAll, ih]
    by_cases h : a = b <;> by_cases h' : r = t <;> simp [PyData.eqv, h, h']
theorem eqv_strs (xs ys : List Str) : PyData.eqv (.tuple (xs.map PyData.str)) (.tuple (ys.map PyData.str)) = decide (xs = ys) := by
  rw [PyData.eqv]
  exact eqvAll_strs xs ys
theorem dpAll_strs {K : PySem.W.Frag} {H : Hp} : ∀ xs : List Str, DpAll K H (xs.map V.str) (xs.map PyData.str)
  | [] => .nil
  | x :: r => .cons (.str x) (dpAll_strs r)
def okStr (x : Str) : Prop := PyData.strOk x = true
theorem lay_strs : ∀ xs : List Str, (∀ x ∈ xs, okStr x) → PyData.canLayAll0 (xs.map PyData.str) = true
  | [], _ => by simp [PyData.canLayAll0]
  | x :: r, h => by
    rw [List.map_cons, PyData.canLayAll0, lay_strs r fun y hy => h y (List.mem_cons_of_mem _ hy)]
    have := h x List.mem_cons_self
    unfold okStr at this
    simp [PyData.canLay0, this]
theorem deep_strs : ∀ xs : List Str, PyData.depthAll (xs.map PyData.str) ≤ 1
  | [] => by simp [PyData.depthAll]
  | x :: r => by
    have ih := deep_strs r
    rw [List.map_cons, PyData.depthAll]
    simp only [PyData.depth]
    omega
theorem okStr_name {z : Str} (h : nameB z = true) : okStr z := by
  unfold okStr PyData.strOk
  rw [Array.all_eq_true']
  intro c hc
  have h1 := nameB_all h c (by simpa using hc)
  unfold letB at h1
  have h2 : (alpha.cps.toList.all fun c => decide (c < 0x110000)) = true := by decide +kernel
  exact List.all_eq_true.mp h2 c (of_decide_eq_true h1)
def TupsAt (H : Hp) (d : Addr) (T : TT') : Prop := H d = some (.dK (T.map tkv)) ∧ ∀ t ∈ T, H t.2.1 = some (.tup (t.2.2.map V.str)) ∧ ∀ z ∈ t.2.2, nameB z = true
theorem TupsAt.same {H H' : Hp} {d : Addr} {T : TT'} (h : TupsAt H d T) (k : Same H H') : TupsAt H' d T := ⟨k _ _ h.1, fun t ht => ⟨k _ _ (h.2 t ht).1, (h.2 t ht).2⟩⟩
theorem shaped_strs (xs : List Str) (h : ∀ x ∈ xs, okStr x) : SeqAt.shaped (.tuple (xs.map PyData.str)) = true := by
  unfold SeqAt.shaped
  rw [PyData.canLay0, lay_strs xs h, Bool.true_and, PyData.depth]
  have := deep_strs xs
  exact decide_eq_true (by omega)
section
variable {X : Cx} {pins : List (Addr × Obj)} {σ : L2.St} {H : Hp} {s : Shared}
theorem tup_eqAt (I : Inv X pins σ H s) {A : Around} (hu : A.units + 64 < cLine) {a b : Addr} {xs ys : List Str} (ha : H a = some (.tup (xs.map V.str))) (hb : H b = some (.tup (ys.map V.str))) (nx : ∀ z ∈ xs, nameB z = true) (ny : ∀ z ∈ ys, nameB z = true) : SeqAt.EqAt A s (.ref a) (.ref b) (decide (xs = ys)) := by
  by_cases e : a = b
  · subst e
    rw [ha] at hb
    have e2 : xs = ys := strs_inj (HO.tup.inj (Option.some.inj hb))
    rw [decide_eq_true e2]
    exact SeqAt.EqAt.same _
  · refine SeqAt.EqAt.of_refs e fun prog w E Q hq => ?_
    obtain ⟨as, r1⟩ := Dp.reads I (.tuple (xs.map PyData.str)) (.ref a) (.ref a) (.tup (SqT.of ha) (dpAll_strs xs)) rfl
    obtain ⟨bs, r2⟩ := Dp.reads I (.tuple (ys.map PyData.str)) (.ref b) (.ref b) (.tup (SqT.of hb) (dpAll_strs ys)) rfl
    exact SeqAt.compareEq_shaped r1 r2 (shaped_strs _ fun z hz => okStr_name (nx z hz)) (shaped_strs _ fun z hz => okStr_name (ny z hz)) hu (by rw [eqv_strs]; exact hq)
theorem valV_tkv (T : TT') (x : Str) : valV (T.map tkv) (.inr x) = ((T.find? fun t => decide (t.1 = x)).map fun t => V.ref t.2.1) := by
  unfold valV
  induction T with
  | nil => rfl
  | cons p r ih =>
    by_cases h : p.1 = x
    · have h1 : (fun kv : Key × V => decide (kv.1 = Sum.inr x)) (tkv p) = true := decide_eq_true (congrArg Sum.inr h)
      rw [List.map_cons, List.find?_cons_of_pos (p := fun kv : Key × V => decide (kv.1 = Sum.inr x)) h1, List.find?_cons_of_pos (by simpa using h)]
      rfl
    · have h1 : ¬ (fun kv : Key × V => decide (kv.1 = Sum.inr x)) (tkv p) = true := by
        intro e
        exact h (Sum.inr.inj (of_decide_eq_true e))
      rw [List.map_cons, List.find?_cons_of_neg (p := fun kv : Key × V => decide (kv.1 = Sum.inr x)) h1, List.find?_cons_of_neg (by simpa using h)]
      exact ih
theorem gl_ct (T : TT') (x : Str) : gl (ct T) x = (T.find? fun t => decide (t.1 = x)).map fun t => t.2.2 := by
  unfold gl ct
  induction T with
  | nil => rfl
  | cons p r ih =>
    by_cases h : p.1 = x
    · rw [List.map_cons, List.find?_cons_of_pos (by simpa using h), List.find?_cons_of_pos (by simpa using h)]
      rfl
    · rw [List.map_cons, List.find?_cons_of_neg (by simpa using h), List.find?_cons_of_neg (by simpa using h)]
      exact ih
theorem hits_tur (I : Inv X pins σ H s) {A : Around} (hu : A.units + 64 < cLine) {S : TT'} {vb : List (Key × Value)} (rb : KV (S.map tkv) vb) (hS : ∀ t ∈ S, H t.2.1 = some (.tup (t.2.2.map V.str)) ∧ ∀ z ∈ t.2.2, nameB z = true) :
    ∀ {T : TT'} {va : List (Key × Value)}, KV (T.map tkv) va → (∀ t ∈ T, H t.2.1 = some (.tup (t.2.2.map V.str)) ∧ ∀ z ∈ t.2.2, nameB z = true) → PySem.W.KeqHits A s vb va (allG (ct T) (ct S))
  | [], [], .nil, _ => .nil
  | t :: T, q :: va, .cons h hr, hT => by
    have ih := hits_tur I hu rb hS (T := T) hr fun u hu' => hT u (List.mem_cons_of_mem _ hu')
    obtain ⟨k, v⟩ := q
    obtain ⟨h1, h2⟩ := h
    have ek : Sum.inr t.1 = k := h1
    subst ek
    have rv := KV.val rb (Sum.inr t.1)
    rw [valV_tkv] at rv
    show PySem.W.KeqHits A s vb ((Sum.inr t.1, v) :: va) (okG (ct S) (t.1, t.2.2) && allG (ct T) (ct S))
    unfold okG
    dsimp only
    rw [gl_ct]
    cases e : S.find? fun u => decide (u.1 = t.1) with
    | none =>
      rw [e] at rv
      have : valueAt vb (Sum.inr t.1) = none := by
        cases e2 : valueAt vb (Sum.inr t.1) with
        | none => rfl
        | some u => rw [e2] at rv; exact rv.elim
      exact .miss this
    | some u =>
      rw [e] at rv
      obtain ⟨y, e2, ru⟩ := RelO.some_of rv
      have hu1 := hS u (List.mem_of_find?_eq_some e)
      have ht1 := hT t List.mem_cons_self
      cases (show y = Value.ref u.2.1 from ru)
      cases (show v = Value.ref t.2.1 from h2)
      exact .hit e2 (tup_eqAt I hu ht1.1 hu1.1 ht1.2 hu1.2) ih
end
theorem hitsP_of {P : Program} {w : World} {A : Around} {s : Shared} {vb : List (Key × Value)} : ∀ {va : List (Key × Value)} {r : Bool}, PySem.W.KeqHits A s vb va r → PySem.W.KeqHitsP P w A s vb va r
  | _, _, .nil => .nil
  | _, _, .miss h => .miss h
  | _, _, .hit h e t => .hit h e.eqP (hitsP_of t)
def rEqTur : R2 := fun x y H Q => ∃ (a b : Addr) (S T : TT'), x = .ref a ∧ y = .ref b ∧ TupsAt H a S ∧ TupsAt H b T ∧ Q (.bl (eqG (ct S) (ct T))) H
def rNeTur : R2 := fun x y H Q => ∃ (a b : Addr) (S T : TT'), x = .ref a ∧ y = .ref b ∧ TupsAt H a S ∧ TupsAt H b T ∧ Q (.bl (!eqG (ct S) (ct T))) H
theorem len_tkv {S T : TT'} {va vb : List (Key × Value)} (ra : KV (S.map tkv) va) (rb : KV (T.map tkv) vb) : (va.length == vb.length) = ((ct S).length == (ct T).length) := by
  have h1 := KV.length ra
  have h2 := KV.length rb
  rw [List.length_map] at h1 h2
  unfold ct
  rw [List.length_map, List.length_map, h1, h2]
section
variable {X : Cx}
theorem op_eqTur (hu : X.A.units + 128 < cLine) : OpR X (compareOp .Eq) rEqTur := by
  intro pins s σ H x y v u Q I rx ry h
  obtain ⟨a, b, S, T, rfl, rfl, ⟨ea, hS⟩, ⟨eb, hT⟩, q⟩ := h
  obtain rfl : v = Value.ref a := rx
  obtain rfl : u = Value.ref b := ry
  obtain ⟨_, ya, va, ra, da⟩ := dk_of I.hok ea
  obtain ⟨_, yb, vb, rb, db⟩ := dk_of I.hok eb
  refine PySem.W.keq_eq (knd := mixKind X.prog X.w) (r := allG (ct S) (ct T)) ya yb da db (by omega) (fun _ => hits_tur I (by show X.A.units + 1 + 64 < cLine; omega) rb hT ra hS) (fin_bl I q ?_)
  rw [len_tkv ra rb]
  rfl
theorem op_neTur (hu : X.A.units + 128 < cLine) : OpR X (compareOp .NotEq) rNeTur := by
  intro pins s σ H x y v u Q I rx ry h
  obtain ⟨a, b, S, T, rfl, rfl, ⟨ea, hS⟩, ⟨eb, hT⟩, q⟩ := h
  obtain rfl : v = Value.ref a := rx
  obtain rfl : u = Value.ref b := ry
  obtain ⟨_, ya, va, ra, da⟩ := dk_of I.hok ea
  obtain ⟨_, yb, vb, rb, db⟩ := dk_of I.hok eb
  refine PySem.W.keq_ne (knd := mixKind X.prog X.w) (r := allG (ct S) (ct T)) ya yb da db (by omega) (fun _ => hits_tur I (by show X.A.units + 1 + 64 < cLine; omega) rb hT ra hS) (fin_bl I q ?_)
  rw [len_tkv ra rb]
  rfl
/-- [turns, brings] == [turns, brings] -/
def rEqDue (K : PySem.W.Frag) : R2 := fun x y H Q => ∃ (l m a b c d : Addr) (S T : TT') (A B : NI), x = .ref l ∧ y = .ref m ∧ l ≠ m ∧ a ≠ b ∧ c ≠ d ∧ H l = some (.lst [.ref a, .ref c]) ∧ H m = some (.lst [.ref b, .ref d]) ∧ TupsAt H a S ∧ TupsAt H b T ∧ H c = some (dI A) ∧ H d = some (dI B) ∧ Q (.bl (eqG (ct S) (ct T) && eqI A B)) H
theorem op_eqDue (hu : X.A.units + 256 < cLine) : OpR X (compareOp .Eq) (rEqDue X.K) := by
  intro pins s σ H x y v u Q I rx ry h
  obtain ⟨l, m, a, b, c, d, S, T, A, B, rfl, rfl, nlm, nab, ncd, el, em, ⟨ea, hS⟩, ⟨eb, hT⟩, ec, ed, q⟩ := h
  obtain rfl : v = Value.ref l := rx
  obtain rfl : u = Value.ref m := ry
  obtain ⟨_, ya, va, ra, da⟩ := dk_of I.hok ea
  obtain ⟨_, yb, vb, rb, db⟩ := dk_of I.hok eb
  obtain ⟨_, yc, vc, rc, dc⟩ := dk_of I.hok ec
  obtain ⟨_, yd, vd, rd, dd⟩ := dk_of I.hok ed
  have pa : SeqAt.EqP X.prog X.w X.A.in1 s (.ref a) (.ref b) (eqG (ct S) (ct T)) := SeqAt.eqP_refs nab fun E Q hq => PySem.W.rcP_dicts (knd := mixKind X.prog X.w) (r := allG (ct S) (ct T)) ya yb da db (by show X.A.units + 1 < cLine; omega)
    (fun _ => hitsP_of (hits_tur I (by show X.A.units + 1 + 1 + 64 < cLine; omega) rb hT ra hS)) E Q (by rw [len_tkv ra rb]; exact hq)
  have pc : SeqAt.EqP X.prog X.w X.A.in1 s (.ref c) (.ref d) (eqI A B) := SeqAt.eqP_refs ncd fun E Q hq => PySem.W.rcP_dicts (knd := mixKind X.prog X.w) (r := dicAll (A.map kvi) (B.map kvi)) yc yd dc dd (by show X.A.units + 1 < cLine; omega)
    (fun _ => hitsP_of (hits_of rd (flat_dI B) rc (flat_dI A))) E Q (by rw [← KV.length rc, ← KV.length rd]; exact hq)
  obtain ⟨us, r1, p1, _⟩ := I.list (SqL.of el)
  obtain ⟨ws, r2, p2, _⟩ := I.list (SqL.of em)
  obtain ⟨u1, u2, rfl, ru1, ru2⟩ := vals2 r1
  obtain ⟨w1, w2, rfl, rw1, rw2⟩ := vals2 r2
  cases (show u1 = Value.ref a from ru1)
  cases (show u2 = Value.ref c from ru2)
  cases (show w1 = Value.ref b from rw1)
  cases (show w2 = Value.ref d from rw2)
  refine SeqAt.rcP_lists (e := fun j => if j = 0 then eqG (ct S) (ct T) else eqI A B) p1.isList p2.isList rfl (by omega) (fun j h1 h2 => ?_) _ _ ?_
  · match j, h1 with
    | 0, _ => exact pa
    | 1, _ => exact pc
  · refine ⟨.bl _, H, I, ?_, q⟩
    show Value.bool _ = Value.bool _
    rw [show ((List.range ([Value.ref a, Value.ref c].toArray).size).all fun j => if j = 0 then eqG (ct S) (ct T) else eqI A B) = (eqG (ct S) (ct T) && eqI A B) from by
      show ((eqG (ct S) (ct T)) && ((eqI A B) && true)) = _
      rw [Bool.and_true]]
end
end Sl
/-! ## SlDc -/
set_option Elab.async false
set_option linter.all false
set_option maxRecDepth 100000
set_option maxHeartbeats 4000000
namespace Sl
open PySem PySem.Spec PyProof.Rows L2
/-- a dict's comprehension over a walk: Pv by the turn and the heap (the new dict at D within) -/
theorem dc_it {J : It} {n : Nat} {G : Hp → Prop} {Y : Nat → Hp → V → Hp → Prop} (w : Walk J n G Y) {g : TG} {tt : TT} {tk tv : TE} {vs : List Nat} {σ : L2.St} {H1 : Hp} {D : Addr} {Qd : Hp → Prop} (Pv : Nat → Hp → Prop) (h0 : Pv 0 (upd H1 D (.dK []))) (hG : ∀ i H, i ≤ n → Pv i H → G H)
    (hs : ∀ i x H H', i < n → Pv i H → Y i H x H' → g x (wipe σ vs) H' fun σ2 H2 => wipe σ2 vs = wipe σ vs ∧ tt σ2 H2 fun b H3 =>
      if b = true then tk σ2 H3 fun y H4 => tv σ2 H4 fun z H5 => ∃ kvs k, y = kV k ∧ H5 D = some (.dK kvs) ∧ kvs.length < sizeLine ∧ Pv (i + 1) (upd H5 D (.dK (putK kvs k z))) else Pv (i + 1) H3) (hd : ∀ H, Pv n H → Qd H) :
    ∃ W : Nat → Nat → Hp → Prop, (∃ m, W 0 m (upd H1 D (.dK []))) ∧ ∀ i m H, W i m H →
      (J.stop i H ∧ Qd H) ∨ (J.go i H ∧ ∃ Nx : Hp → Prop, (∀ H', Nx H' → ∃ m', m' < m ∧ W (i + 1) m' H') ∧ ∀ x H', J.yld i H x H' → g x (wipe σ vs) H' fun σ2 H2 => wipe σ2 vs = wipe σ vs ∧ tt σ2 H2 fun b H3 =>
        if b = true then tk σ2 H3 fun y H4 => tv σ2 H4 fun z H5 => ∃ kvs k, y = kV k ∧ H5 D = some (.dK kvs) ∧ kvs.length < sizeLine ∧ Nx (upd H5 D (.dK (putK kvs k z))) else Nx H3) := by
  refine ⟨fun i m H => m = n - i ∧ i ≤ n ∧ Pv i H, ⟨n, by simp, Nat.zero_le _, h0⟩, ?_⟩
  rintro i m H ⟨rfl, hi, p⟩
  have q := hG i H hi p
  by_cases hlt : i < n
  · refine .inr ⟨w.goes i H hlt q, Pv (i + 1), fun H' p' => ⟨n - (i + 1), by omega, rfl, hlt, p'⟩, fun x H' y => hs i x H H' hlt p (w.yields i H x H' hlt q y)⟩
  · have e : i = n := by omega
    subst e
    exact .inl ⟨w.stops H q, hd H p⟩
/-- two names, told as a tuple -/
theorem pg_two {X : Cx} {i j kk : Nat} {x y : Str} {p1 p2 pos : Pos} (hc : X.calm = true) (hN : X.N.Nodup) (hi : X.N[i]? = some x) (hj : X.N[j]? = some y) (hx : Loc X.env.scope x) (hy : Loc X.env.scope y)
    (fx : X.fn x = true ∨ X.env.scope.names.lookup x = some .local := by first | exact .inl rfl | exact .inr rfl | assumption) (fy : X.fn y = true ∨ X.env.scope.names.lookup y = some .local := by first | exact .inl rfl | exact .inr rfl | assumption) :
    PG X (.Tuple [.Name x p1, .Name y p2] kk pos) (gTup X.K 2 (gCons (gName i) (gCons (gName j) gNil))) :=
  pg_tup hc (pgs_cons (pg_name hN hi hx fx) (pgs_cons (pg_name hN hj hy fy) pgs_nil))
end Sl
/-! ## ValA -/
set_option Elab.async false
set_option linter.all false
set_option maxRecDepth 100000
set_option maxHeartbeats 8000000
namespace Lw
open PySem PySem.Spec PyProof.Rows L2 Sl
section
variable {P : Program} {w : World} {K : PySem.W.Frag} {mg : Str → Option Value} {base : Heap} {f : Addr} {fd : FuncData}
/-! ### names and whole numbers told apart -/
def sp_isname (K : PySem.W.Frag) : Sp := fun vs H Q _ => ∃ v, vs = [v] ∧ ((∃ z : Str, v = .str z ∧ z.length ≤ 1000 ∧ ∀ H', Same H H' → Q (.bl (nameB z)) H') ∨ ∃ t, TyX K H v t ∧ PySem.W.kitOne K t (.type "str") = some false ∧ ∀ H', Same H H' → Q (.bl false) H')
theorem ok_is_name (F : FnP K "is_name" s_is_name [] f fd) (mI : mg "isinstance" = none) (mS : mg "str" = none) (mL : mg "len" = none) (mA : mg "all" = none) {t1 t2 : Tok} (gL : mg "LETTERS" = some (.str alpha t1)) (gM : mg "MOST_LETTERS" = some (.int 8 t2)) :
    FnOk P w K mg base CX0 1 f fd ["thing"] (sp_isname K) := by
  refine F.ok sc_is_name (fun vs H Q E h => ?_) (fun cdv A outer s H vs Q E hr h => ?_)
  · obtain ⟨v, rfl, _⟩ := h
    rfl
  · obtain ⟨v, rfl, h⟩ := h
    have nd := sc_is_name.nd
    refine ⟨_, PSs.nox (pss_cons (ps_if (PW.pt (pw_or (pt_not (pt_val (pe_callB call_isi (by rfl) mI PyProof.Rows.Boot.«isinstance» (pa_cons (pv 0) (pa_cons (pe_bltn (v := .ty "str") (by rfl) mS PyProof.Rows.Boot.«str» rfl) pa_nil)))))
          (pw_or1 (pt_not (pt_chain op_le op_le pe_int (pe_callB call_len_str (by rfl) mL boot_len (pa_cons (pv 0) pa_nil)) (pe_glob (v := .int 8) (by rfl) gM ⟨_, rfl⟩))))))
        (pss_one (ps_ret pe_bl)) pss_nil)
      (pss_one (ps_ret (pe_callB (cr_all rfl) (by rfl) mA PyProof.Rows.Boot.«all» (pa_cons (pe_lc (own := [("letter", 1)]) (g := gName 1) (tt := tYes) rfl nd (pi_str (pv 0)) (blkOk_by (N := ["thing", "letter"]) (sc := defScope s_is_name) (by decide +kernel)) (fun _ _ _ _ _ => pg_name (i := 1) nd rfl (Or.inl rfl)) (fun _ _ _ _ _ => pts_nil)
          (fun _ _ _ _ _ => pe_cmpR op_in_sign (pv 1) (pe_glob (v := .str alpha) (by rfl) gL ⟨_, rfl⟩) (by rfl))) pa_nil))))), ?_⟩
    rcases h with ⟨z, rfl, hz, k⟩ | ⟨t, ht, hk, k⟩
    · refine ifs_of ⟨_, rfl, _, .ty "str", .type "str", .type "str", true, rfl, .ty _, .base (.str _), kit_ty (by decide +kernel), _, rfl, iteF ?_⟩
      refine ⟨_, rfl, z, rfl, (by rw [sizeLine_eq]; omega), 1, (z.length : Int), rfl, rfl, _, rfl, ite_of (fun h1 => ⟨(z.length : Int), 8, rfl, rfl, _, rfl, ?_⟩) (fun h1 => ⟨_, rfl, iteT (?_ : Q _ _)⟩)⟩
      · cases h8 : decide ((z.length : Int) ≤ 8) with
        | false =>
          refine iteT ?_
          have e : nameB z = false := by
            unfold nameB
            have : decide (z.length ≤ 8) = false := decide_eq_false (by have := of_decide_eq_false h8; omega)
            rw [this]
            simp
          have := k H fun _ _ e => e
          rw [e] at this
          exact this
        | true =>
          refine iteF (nx_of ?_)
          refine ⟨_, rfl, z, rfl, fun D hD => ?_⟩
          refine lc_it walk_str (fun i H' => Same H H' ∧ H' D = some (.lst (((z.cps.toList.take i).map letB).map V.bl))) ⟨same_new hD, upd_same⟩ (fun _ _ _ _ => trivial) ?_ ?_
          · intro i x Ha Hb hi ⟨s1, hd1⟩ ⟨e, c, hc, ex⟩
            subst e ex
            refine ⟨rfl, yes_of (iteT ?_)⟩
            refine ⟨_, rfl, c, alpha, rfl, rfl, _, hd1, ?_, ?_, ?_⟩
            · rw [List.length_map, List.length_map, List.length_take, Array.length_toList, sizeLine_eq]
              have : z.cps.size ≤ 1000 := hz
              omega
            · intro b o e
              rw [upd_ne (ne_of_none e hD)]
              exact s1 _ _ e
            · have hc' : z.cps.toList[i]? = some c := by
                rw [Array.getElem?_toList]
                exact hc
              rw [upd_same, List.take_succ, hc', List.map_append, List.map_append]
              rfl
          · intro H4 ⟨s4, hd4⟩
            refine ⟨D, _, rfl, SqL.of hd4, ?_⟩
            have e : nameB z = (((z.cps.toList.take z.cps.size).map letB).all id) := by
              unfold nameB
              have h1' : decide (1 ≤ z.length) = true := decide_eq_true (by have := of_decide_eq_true h1; omega)
              have h8' : decide (z.length ≤ 8) = true := decide_eq_true (by have := of_decide_eq_true h8; omega)
              rw [h1', h8', List.all_map, show z.cps.toList.take z.cps.size = z.cps.toList from by rw [← Array.length_toList]; exact List.take_length]
              rfl
            rw [← e]
            exact k H4 s4
      · have e : nameB z = false := by
          unfold nameB
          have : decide (1 ≤ z.length) = false := decide_eq_false (by have := of_decide_eq_false h1; omega)
          rw [this]
          rfl
        have := k H fun _ _ e => e
        rw [e] at this
        exact this
    · exact ifs_of ⟨_, rfl, _, .ty "str", t, .type "str", false, rfl, .ty _, ht, hk, _, rfl, iteT (iteT (k H fun _ _ e => e))⟩
end
end Lw
/-! ## ValB -/
set_option Elab.async false
set_option linter.all false
set_option maxRecDepth 100000
set_option maxHeartbeats 8000000
namespace Lw
open PySem PySem.Spec PyProof.Rows L2 Sl
section
variable {P : Program} {w : World} {K : PySem.W.Frag} {mg : Str → Option Value} {base : Heap} {f : Addr} {fd : FuncData}
def sp_isint (K : PySem.W.Frag) : Sp := fun vs H Q _ => ∃ i : Int, vs = [.int i] ∧ Q (.bl true) H
theorem ok_is_integer (F : FnP K "is_integer" s_is_integer [] f fd) (mI : mg "isinstance" = none) (mN : mg "int" = none) (mB : mg "bool" = none) : FnOk P w K mg base CX0 1 f fd ["thing"] (sp_isint K) := by
  refine F.ok sc_is_integer (fun vs H Q E h => ?_) (fun cdv A outer s H vs Q E hr h => ?_)
  · obtain ⟨v, rfl, _⟩ := h
    rfl
  · obtain ⟨i, rfl, k⟩ := h
    refine ⟨_, PSs.nox (pss_one (ps_ret (pe_and (pe_callB call_isi (by rfl) mI PyProof.Rows.Boot.«isinstance» (pa_cons (pv 0) (pa_cons (pe_bltn (v := .ty "int") (by rfl) mN PyProof.Rows.Boot.«int» rfl) pa_nil)))
      (pe_one (pe_not (pe_callB call_isi (by rfl) mI PyProof.Rows.Boot.«isinstance» (pa_cons (pv 0) (pa_cons (pe_bltn (v := .ty "bool") (by rfl) mB PyProof.Rows.Boot.«bool» rfl) pa_nil)))))))), ?_⟩
    exact ⟨_, rfl, _, .ty "int", .type "int", .type "int", true, rfl, .ty _, .base (.int _), kit_ty (by decide +kernel), _, rfl, iteT ⟨_, rfl, _, .ty "bool", .type "int", .type "bool", false, rfl, .ty _, .base (.int _), kit_ty (by decide +kernel), _, rfl, k⟩⟩
def sp_islist (K : PySem.W.Frag) : Sp := fun vs H Q _ => ∃ (v : V) (t : Value), vs = [v] ∧ TyX K H v t ∧ PySem.W.kitAny K t [.type "list", .type "tuple"] = some true ∧ ∀ H', Same H H' → Q (.bl true) H'
theorem ok_is_list (F : FnP K "is_list" s_is_list [] f fd) (mI : mg "isinstance" = none) (mL : mg "list" = none) (mT : mg "tuple" = none) : FnOk P w K mg base CX0 1 f fd ["thing"] (sp_islist K) := by
  refine F.ok sc_is_list (fun vs H Q E h => ?_) (fun cdv A outer s H vs Q E hr h => ?_)
  · obtain ⟨v, t, rfl, _⟩ := h
    rfl
  · obtain ⟨v, t, rfl, ht, hk, k⟩ := h
    refine ⟨_, PSs.nox (pss_one (ps_ret (pe_callB call_isiT (by rfl) mI PyProof.Rows.Boot.«isinstance» (pa_cons (pv 0) (pa_cons (pe_tup (pa_cons (pe_bltn (v := .ty "list") (by rfl) mL PyProof.Rows.Boot.«list» rfl) (pa_cons (pe_bltn (v := .ty "tuple") (by rfl) mT PyProof.Rows.Boot.«tuple» rfl) pa_nil))) pa_nil))))), ?_⟩
    refine ⟨_, rfl, (by show 2 ≤ sizeLine; decide), fun p hp => ?_⟩
    refine ⟨v, p, _, t, _, true, rfl, upd_same, .cons (.ty _) (.cons (.ty _) .nil), ?_, hk, k _ (same_new hp)⟩
    exact TyX.same ht (same_new hp)
end
end Lw
/-! ## ValE3 -/
set_option Elab.async false
set_option linter.all false
set_option maxRecDepth 100000
set_option maxHeartbeats 8000000
namespace Lw
open PySem PySem.Spec PyProof.Rows L2 Sl
section
variable {P : Program} {w : World} {K : PySem.W.Frag} {mg : Str → Option Value} {base : Heap} {f : Addr} {fd : FuncData}
def sp_sums : Sp := fun vs H Q _ => ∃ (a b : Addr) (A B : NI), vs = [.ref a, .ref b] ∧ H a = some (dI A) ∧ H b = some (dI B) ∧ (ks A).Nodup ∧ (ks B).Nodup ∧ A.length ≤ 400 ∧ B.length ≤ 400 ∧
  ∀ (d : Addr) (S : NI) (H' : Hp), H d = none → Same H H' → H' d = some (dI S) → (ks S).Nodup → (∀ x, x ∈ ks S ↔ x ∈ ks A ∨ x ∈ ks B) → (∀ x, get0 S x = get0 A x + get0 B x) → S.length ≤ 800 → Q (.ref d) H'
theorem ok_sums (F : FnP K "sums" s_sums [] f fd) : FnOk P w K mg base CX0 1 f fd ["one", "other"] sp_sums := by
  refine F.ok sc_sums (fun vs H Q E h => ?_) (fun cdv A outer s H vs Q E hr h => ?_)
  · obtain ⟨a, b, A, B, rfl, _⟩ := h
    rfl
  · obtain ⟨a, b, A, B, rfl, ha, hb, na, nb, la, lb, k⟩ := h
    have nd := sc_sums.nd
    have hu := hu_of hr
    refine ⟨_, PSs.nox (pss_one (ps_ret (pe_dc (own := [("name", 2)]) (g := gName 2) (tt := tYes) rfl nd (pi_keysN (pe_two (pv 0) (pv 1))) (blkOk_by (N := ["one", "other", "name"]) (sc := defScope s_sums) (by decide +kernel))
      (fun _ _ _ _ _ => pg_name (i := 2) nd rfl (Or.inl rfl)) (fun _ _ _ _ _ => pts_nil) (fun _ _ _ _ _ => pv 2)
      (fun _ _ _ _ _ => pe_op op_add (pe_dget2 hu (pv 0) (pv 2) pe_int ⟨rfl, rfl, rfl, rfl⟩) (pe_dget2 hu (pv 1) (pv 2) pe_int ⟨rfl, rfl, rfl, rfl⟩))))), ?_⟩
    intro p hp
    have nap : a ≠ p := fun e => by rw [e, hp] at ha; cases ha
    have nbp : b ≠ p := fun e => by rw [e, hp] at hb; cases hb
    refine ⟨_, rfl, a, A.map kvi, rfl, nap, .inl (by rw [upd_ne nap]; exact ha), upd_same, (by rw [List.length_map]; omega), ?_⟩
    refine ⟨_, rfl, b, B.map kvi, rfl, nbp, .inl (by rw [upd_ne nbp, upd_ne nbp]; exact hb), upd_same, (by rw [List.length_map]; omega), ?_⟩
    rw [mergeK_nil na, mergeK_kvi]
    obtain ⟨nU, mU⟩ := mrgI_keys B A na
    have lU := mrgI_len B A
    generalize mrgI A B = M at nU mU lU
    refine ⟨p, M.map kvi, rfl, upd_same, fun od => ?_⟩
    have e0 : ∀ c o, H c = some o → (upd (upd (upd (upd H p (.dK [])) p (.dK (A.map kvi))) p (.dK (M.map kvi))) p (.frz od (.dK (M.map kvi)))) c = some o := fun c o e => by
      have n := ne_of_none e hp
      rw [upd_ne n, upd_ne n, upd_ne n, upd_ne n]
      exact e
    have ep : (upd (upd (upd (upd H p (.dK [])) p (.dK (A.map kvi))) p (.dK (M.map kvi))) p (.frz od (.dK (M.map kvi)))) p = some (.frz od (.dK (M.map kvi))) := upd_same
    generalize upd (upd (upd (upd H p (.dK [])) p (.dK (A.map kvi))) p (.dK (M.map kvi))) p (.frz od (.dK (M.map kvi))) = H1 at e0 ep
    intro D hD
    refine dc_it (walk_keys (o := od) (d := p) (kvs := M.map kvi)) (fun i H' => Same H1 H' ∧ H' D = some (dI (((ks M).take i).map fun x => (x, get0 A x + get0 B x)))) ⟨same_new hD, upd_same⟩ (fun i H' _ ⟨s2, _⟩ => s2 _ _ ep) ?_ ?_
    · intro i x Ha Hb hi ⟨s2, hd⟩ ⟨e, kk, v, hk, ex⟩
      subst e ex
      rw [List.getElem?_map] at hk
      obtain ⟨q, hq, eq⟩ := Option.map_eq_some_iff.mp hk
      have ek : kk = .inr q.1 := (congrArg Prod.fst eq).symm
      subst ek
      have ha2 := s2 _ _ (e0 _ _ ha)
      have hb2 := s2 _ _ (e0 _ _ hb)
      have hqk : (ks M)[i]? = some q.1 := by
        unfold ks
        rw [List.getElem?_map, hq]
        rfl
      refine ⟨rfl, yes_of (iteT ?_)⟩
      refine ⟨_, rfl, _, rfl, a, rfl, .inl ⟨_, .inl ha2⟩, _, rfl, valV (A.map kvi) (.inr q.1), .inl ⟨A.map kvi, .inr q.1, .inl ha2, rfl, rfl⟩, _, rfl, b, rfl, .inl ⟨_, .inl hb2⟩, _, rfl, valV (B.map kvi) (.inr q.1), .inl ⟨B.map kvi, .inr q.1, .inl hb2, rfl, rfl⟩, ?_⟩
      have gv : ∀ C : NI, (valV (C.map kvi) (.inr q.1)).getD (.int 0) = .int (get0 C q.1) := fun C => by
        rw [valV_kvi]
        unfold get0
        cases get? C q.1 <;> rfl
      refine ⟨get0 A q.1, get0 B q.1, gv A, gv B, _, .inr q.1, rfl, hd, ?_, ?_, ?_⟩
      · rw [List.length_map, List.length_map, List.length_take, sizeLine_eq]
        unfold ks
        rw [List.length_map]
        omega
      · intro c o e
        rw [upd_ne (ne_of_none e hD)]
        exact s2 _ _ e
      · rw [upd_same, List.take_succ, hqk, List.map_append]
        show some (HO.dK (putK _ (.inr q.1) (.int (get0 A q.1 + get0 B q.1)))) = _
        rw [putK_new _ _ _ ?_]
        · rfl
        · rw [ks_map]
          intro hm
          have h1 : ((ks M).take (i + 1)).Nodup := List.Nodup.sublist (List.take_sublist _ _) nU
          rw [List.take_succ, hqk, List.nodup_append] at h1
          exact h1.2.2 q.1 hm q.1 (List.mem_singleton.mpr rfl) rfl
    · intro H2 ⟨s2, hd⟩
      have et : (ks M).take (M.map kvi).length = ks M := by
        rw [List.length_map]
        have : M.length = (ks M).length := by unfold ks; rw [List.length_map]
        rw [this]
        exact List.take_length
      rw [et] at hd
      have kD : H D = none := by
        cases eD : H D with
        | none => rfl
        | some o => rw [e0 _ _ eD] at hD; cases hD
      refine k D _ H2 kD (fun c o e => s2 _ _ (e0 _ _ e)) hd (by rw [ks_map]; exact nU) (fun x => by rw [ks_map]; exact mU x) (fun x => ?_) ?_
      · rw [get0_map nU (fun x => get0 A x + get0 B x)]
        by_cases hx : x ∈ ks M
        · rw [if_pos hx]
        · rw [if_neg hx, get0_none (fun h => hx ((mU x).mpr (.inl h))), get0_none (fun h => hx ((mU x).mpr (.inr h)))]
          rfl
      · rw [List.length_map]
        unfold ks
        rw [List.length_map]
        omega
end
end Lw
/-! ## SlSort -/
set_option Elab.async false
set_option linter.all false
set_option maxRecDepth 100000
set_option maxHeartbeats 4000000
/-! sorted(xs), xs a list of tuples (text, anything), no two texts alike -/
namespace Sl
open PySem PySem.Spec PyProof.Rows L2 SrtO
def IsSP (h : Heap) (v : Value) (x : Str) : Prop := ∃ a o t u n, v = .ref a ∧ h.get? a = some o ∧ o.cls = .type "tuple" ∧ o.data = .seq #[.str x t, u] n
theorem IsSP.keeps {h h' : Heap} {v : Value} {x : Str} (p : IsSP h v x) (k : ∀ b o, h.get? b = some o → o.cls = .type "tuple" → h'.get? b = some o) : IsSP h' v x := by
  obtain ⟨a, o, t, u, n, e, ho, hc, hd⟩ := p
  exact ⟨a, o, t, u, n, e, k _ _ ho hc, hc, hd⟩
def ltk {α : Type} (k : α → Str) (v u : α) : Bool := decide ((k v).cps.toList < (k u).cps.toList)
theorem ltk_swo {α : Type} (k : α → Str) : Swo (ltk k) := by
  refine ⟨fun x y h => ?_, fun x y z h1 h2 => ?_⟩
  · exact decide_eq_false fun h' => List.lt_irrefl _ (List.lt_trans (of_decide_eq_true h) h')
  · have a := of_decide_eq_false h1
    have b := of_decide_eq_false h2
    exact decide_eq_false (show ¬ _ from List.le_trans (show ¬ _ from a) (show ¬ _ from b))
section
variable {prog : Program} {w : World} {A : Around} {E : Value → Shared → Prop} {s : Shared}
theorem sp_firsts {h : Heap} {k : Value → Str} : ∀ {vs : List Value}, (∀ v ∈ vs, IsSP h v (k v)) → ∃ fs : List Value, PySem.W.KatTups h vs fs ∧ fs.length = vs.length ∧ ∀ f ∈ fs, ∃ x t, f = Value.str x t
  | [], _ => ⟨[], PySem.W.KatTups.nil, rfl, fun _ hm => by simp at hm⟩
  | v :: vs, hp => by
    obtain ⟨fs, h1, h2, h3⟩ := sp_firsts (vs := vs) fun v' hm => hp v' (List.mem_cons_of_mem _ hm)
    obtain ⟨a, o, t, u, n, e, ho, hc, hd⟩ := hp v (List.mem_cons_self ..)
    have e0 := e
    subst e
    refine ⟨.str (k (.ref a)) t :: fs, PySem.W.KatTups.cons ho hc hd rfl h1, by rw [List.length_cons, List.length_cons, h2], fun f hm => ?_⟩
    rcases List.mem_cons.mp hm with rfl | hm
    · exact ⟨_, t, rfl⟩
    · exact h3 f hm
theorem sp_cmp {vs : List Value} {k : Value → Str} (hp : ∀ v ∈ vs, IsSP s.heap v (k v)) (inj : ∀ v ∈ vs, ∀ u ∈ vs, k v = k u → v = u) : Cmp prog w A s (tuples' true) (fun p => p.1 ∈ vs) (lt2 (ltk k)) := by
  intro p q hm hm'
  have h1 := hp _ hm
  have h2 := hp _ hm'
  have hij := inj _ hm _ hm'
  show wpAny (model prog w) A (keyLt' (tuples' true) p.1 q.1) (fun r s' => s' = s ∧ r = ltk k p.1 q.1) (fun _ _ => False) s
  unfold ltk
  generalize k p.1 = x at h1 hij ⊢
  generalize k q.1 = x' at h2 hij ⊢
  obtain ⟨a, o, t, u, n, e, ho, hc, hd⟩ := h1
  obtain ⟨a', o', t', u', n', e', ho', hc', hd'⟩ := h2
  rw [e, e'] at hij
  rw [e, e']
  refine PySem.W.kat_lt ho hd ho' hd' ?_
  show PySem.W.KatLex prog w A true (decide (2 < 2)) _ [(.str x t, .str x' t'), (u, u')] 0 s
  refine PySem.W.kat_cons (SeqAt.EqAt.str_str x t x' t' prog w _ _ ?_)
  refine PySem.W.kat_go (fun e1 => ?_) (fun e1 => ?_)
  · have ex : x = x' := by simpa using e1
    have ea := Value.ref.inj (hij ex)
    subst ea
    rw [ho] at ho'
    cases Option.some.inj ho'
    rw [hd] at hd'
    have hu : u = u' := by
      injection hd' with h3 h4
      have h5 := congrArg Array.toList h3
      simp at h5
      exact h5.2
    subst hu
    refine PySem.W.kat_yes (PySem.W.kat_cons (SeqAt.EqAt.same u prog w _ _ ?_))
    refine PySem.W.kat_go (fun e2 => ?_) (fun e2 => by cases e2)
    refine PySem.W.kat_yes (PySem.W.kat_nil ⟨rfl, ?_⟩)
    rw [ex]
    exact (decide_eq_false (List.lt_irrefl _)).symm
  · exact PySem.W.kat_no (oneLt_str ⟨rfl, rfl⟩)
theorem sp_sortable {a : Addr} {vs : List Value} {k : Value → Str} (h0 : 0 < vs.length) (hp : ∀ v ∈ vs, IsSP s.heap v (k v)) (inj : ∀ v ∈ vs, ∀ u ∈ vs, k v = k u → v = u) (ha : ∀ o, s.heap.get? a = some o → o.cls ≠ .type "tuple") : SortableO prog w A s a vs (ltk k) := by
  intro h' keep
  have hp' : ∀ v ∈ vs, IsSP h' v (k v) := fun v hm => (hp v hm).keeps fun b o e c => keep b o (fun z => by subst z; exact ha o e c) e
  obtain ⟨fs, h1, h2, h3⟩ := sp_firsts hp'
  refine ⟨tuples' true, fun Q E hq => ?_, sp_cmp hp' inj⟩
  refine PySem.W.kat_kind (T := .type "str") h1 (by omega) (fun f hm => ?_) (by rfl) ?_
  · obtain ⟨x, t, rfl⟩ := h3 f hm
    exact PySem.W.Looks.now
  · have e : (Value.type "str" != Value.type "tuple") = true := by first | decide +kernel | rfl | decide
    rw [e]
    exact hq
theorem sp_sorted {l : Addr} {vs : List Value} {k : Value → Str} {Q : Value → Shared → Prop} (hl : s.heap.IsList l vs.toArray) (hz : vs.length ≤ sizeLine) (hp : ∀ v ∈ vs, IsSP s.heap v (k v)) (inj : ∀ v ∈ vs, ∀ u ∈ vs, k v = k u → v = u)
    (h : ∀ (h' : Heap) (d : Addr) (out : List Value), Srtd (ltk k) out → Stb (ltk k) out vs → (∀ b o, s.heap.get? b = some o → h'.get? b = some o) → s.heap.objs.size ≤ d → (∃ n, h'.get? d = some (seqObj "list" out.toArray n)) → Q (.ref d) { s with heap := h' }) :
    wpAny (model prog w) A (call (.builtin "sorted") [.ref l]) Q E s := by
  refine sorted_ord (ltk_swo k) hl hz (fun h2 h₁ a ha kk => ?_) fun out hs hb => ?_
  · refine sp_sortable (s := { s with heap := h₁ }) (by omega) (fun v hm => (hp v hm).keeps fun b o e _ => (kk b o e).2) inj fun o e => ?_
    have e' : some o = some (seqObj "list" vs.toArray 0) := e.symm.trans ha
    cases e'
    intro c
    exact absurd (Value.type.inj c) (by decide)
  · exact h _ _ out hs hb (fun b o e => sortedAll_old e) (Nat.le_succ _) (sortedAll_at s.heap vs out.toArray)
end
/-- sorted(xs), xs tuples of a text and something, no two texts alike: a new list, sorted by the texts -/
def rSortedSP (K : PySem.W.Frag) : List V → Hp → VK → Prop := fun vs H Q => ∃ (a : Addr) (xs : List V) (k : V → Str), vs = [V.ref a] ∧ SqL K H a xs ∧ (∀ x ∈ xs, ∃ t v, x = V.ref t ∧ H t = some (.tup [.str (k x), v])) ∧ (∀ x ∈ xs, ∀ y ∈ xs, k x = k y → x = y) ∧
  ∀ ys p, Srtd (ltk k) ys → ys.Perm xs → H p = none → Q (.ref p) (upd H p (.lst ys))
section
variable {X : Cx}
theorem cr_sortedSP : CallR X (.builtin "sorted") (rSortedSP X.K) := by
  intro pins s σ H vs us Q I r h
  obtain ⟨a, xs, k, rfl, hs, hx, hi, q⟩ := h
  obtain ⟨its, rv, hl, hz⟩ := I.list hs
  obtain ⟨u, rfl, ru⟩ := vals1 r
  obtain rfl : u = Value.ref a := ru
  obtain ⟨e1, e2⟩ := refs_back rv fun x m => by
    obtain ⟨t, v, e, _⟩ := hx x m
    exact ⟨t, e⟩
  have mem : ∀ v ∈ its, backV v ∈ xs := fun v hv => by
    rw [e1]
    exact List.mem_map.mpr ⟨_, hv, rfl⟩
  have inj : ∀ v ∈ its, ∀ u ∈ its, k (backV v) = k (backV u) → v = u := fun v hv u hu e => by
    have := hi _ (mem v hv) _ (mem u hu) e
    obtain ⟨t1, rfl⟩ := e2 v hv
    obtain ⟨t2, rfl⟩ := e2 u hu
    exact congrArg Value.ref (V.ref.inj this)
  refine sp_sorted (k := fun u => k (backV u)) hl.isList (by rw [← rv.length]; exact hz) (fun v hv => ?_) inj fun h' d out h1 h2 kp hd hn => ?_
  · obtain ⟨t, rfl⟩ := e2 v hv
    obtain ⟨t', v', e, ht⟩ := hx _ (mem _ hv)
    cases e
    obtain ⟨_, its2, r2, o, ho, hc, n, hd⟩ := I.hok _ _ ht
    obtain ⟨u1, u2, rfl, ri, rj⟩ := vals2 r2
    obtain ⟨t1, rfl⟩ := ri
    exact ⟨t, o, t1, u2, n, rfl, ho, hc, hd⟩
  · have h3 : ∀ u ∈ out, ∃ a, u = Value.ref a := fun u hu => e2 u (h2.perm.mem_iff.mp hu)
    obtain ⟨n, hn⟩ := hn
    have hb : (out.map backV).Perm xs := by
      rw [e1]
      exact h2.perm.map backV
    refine ⟨.ref d, upd H d (.lst (out.map backV)), I.laid (t' := s.toks) kp hd ⟨?_, out, n, vals_back h3, hn⟩, rfl, q _ d (srtd_map h1) hb (I.hok.fresh hd)⟩
    rw [hb.length_eq]
    exact hz
end
end Sl
/-! ## StA -/
set_option Elab.async false
set_option linter.all false
set_option maxRecDepth 100000
set_option maxHeartbeats 8000000
set_option pp.deepTerms false
set_option pp.deepTerms.threshold 3
set_option pp.maxSteps 500
namespace Sl
open PySem PySem.Spec PyProof.Rows L2
/-! a walk over a list or a tuple -/
def iLT (K : PySem.W.Frag) (tl : TE) : TI := fun σ H R => tl σ H fun x H1 => ∃ a, x = .ref a ∧ (((∃ xs, SqL K H1 a xs) ∧ R (Itl K a) H1) ∨ ((∃ xs, SqT K H1 a xs) ∧ R (Itt K a) H1))
section
variable {X : Cx} {tg e : Expr} {te : TE}
theorem pi_lt (he : PE X e te) : PI X tg e (iLT X.K te) := by
  refine ⟨fun pp st σ G R J h => ?_⟩
  refine thn (he.run pp st σ G _ J h) fun u s9 ⟨x, G1, J1, r1, a, ex, q⟩ => ?_
  subst ex
  cases r1
  have nw := s9.heap.objs.size
  rcases q with ⟨⟨xs, hq⟩, q⟩ | ⟨⟨xs, hq⟩, q⟩
  · obtain ⟨its, rv, il, hz⟩ := J1.list hq
    refine wpAny_pyIter_list il.isList ?_
    refine ⟨s9.heap.objs.size, [s9.heap.objs.size], _, _, G1, rfl, J1.kept (t' := s9.toks) fun b o z => Heap.get?_push_of_some _ z, turn_list a _,
      ⟨_, Heap.get?_push_size _ rfl, rfl, rfl⟩, fun b hb => ?_, q⟩
    obtain rfl : b = s9.heap.objs.size := by simpa using hb
    exact J1.fpOk (Nat.le_refl _) (J1.hok.fresh (Nat.le_refl _))
  · obtain ⟨its, rv, il, hz⟩ := J1.tuple hq
    refine wpAny_pyIter_tuple (show s9.heap.IsTuple a its.toArray from il) ?_
    refine ⟨s9.heap.objs.size, [s9.heap.objs.size], _, _, G1, rfl, J1.kept (t' := s9.toks) fun b o z => Heap.get?_push_of_some _ z, turn_tuple a _,
      ⟨_, Heap.get?_push_size _ rfl, rfl, rfl⟩, fun b hb => ?_, q⟩
    obtain rfl : b = s9.heap.objs.size := by simpa using hb
    exact J1.fpOk (Nat.le_refl _) (J1.hok.fresh (Nat.le_refl _))
end
/-- a list or a tuple -/
def LT (H : Hp) (b : Addr) (xs : List V) : Prop := H b = some (.lst xs) ∨ H b = some (.tup xs)
theorem LT.same {H H' : Hp} {b : Addr} {xs : List V} (h : LT H b xs) (k : Same H H') : LT H' b xs := h.imp (k _ _) (k _ _)
theorem free_same {H H' : Hp} {a : Addr} (k : Same H H') (h : H' a = none) : H a = none := by
  cases e : H a with
  | none => rfl
  | some o => rw [k _ _ e] at h; cases h
end Sl
namespace Lw
open PySem PySem.Spec PyProof.Rows L2 Sl
section
variable {P : Program} {w : World} {K : PySem.W.Frag} {mg : Str → Option Value} {base : Heap} {f : Addr} {fd : FuncData}
theorem any_tuple : PySem.W.kitAny K (.type "tuple") [.type "list", .type "tuple"] = some true := by
  have h1 : PySem.W.kitOne K (.type "tuple") (.type "list") = some false := kit_ty (by decide +kernel)
  have h2 : PySem.W.kitOne K (.type "tuple") (.type "tuple") = some true := kit_ty (by decide +kernel)
  unfold PySem.W.kitAny
  rw [h1]
  unfold PySem.W.kitAny
  rw [h2]
theorem any_list : PySem.W.kitAny K (.type "list") [.type "list", .type "tuple"] = some true := by
  have h1 : PySem.W.kitOne K (.type "list") (.type "list") = some true := kit_ty (by decide +kernel)
  unfold PySem.W.kitAny
  rw [h1]
theorem LT.ty {H : Hp} {b : Addr} {xs : List V} (h : LT H b xs) : ∃ t, TyX K H (.ref b) t ∧ PySem.W.kitAny K t [.type "list", .type "tuple"] = some true := by
  rcases h with h | h
  · exact ⟨_, .base (.lst h), any_list⟩
  · exact ⟨_, .base (.tup h), any_tuple⟩
theorem LT.seq {H : Hp} {b : Addr} {xs : List V} (h : LT H b xs) : SqL K H b xs ∨ SqT K H b xs := h.imp SqL.of SqT.of
def sp_isturn : Sp := fun vs H Q _ => ∃ (b : Addr) (ws : List Str), vs = [.ref b] ∧ LT H b (ws.map V.str) ∧ ws.length ≤ 3 ∧ (∀ z ∈ ws, nameB z = true) ∧ ∀ H', Same H H' → Q (.bl true) H'
theorem all_true (n : Nat) : ((List.replicate n true).all id) = true := by
  induction n with
  | zero => rfl
  | succ n ih =>
    rw [List.replicate_succ, List.all_cons, ih]
    rfl
theorem ok_is_turn (F : FnP K "is_turn" s_is_turn [] f fd) (L : Cal P w K mg base 1 "is_list" [] (sp_islist K)) (N : Cal P w K mg base 1 "is_name" [] (sp_isname K)) (mLen : mg "len" = none) (mA : mg "all" = none) {t1 : Tok} (gM : mg "MOST_KINDS" = some (.int 3 t1)) : FnOk P w K mg base CX0 2 f fd ["thing"] sp_isturn := by
  refine F.ok sc_is_turn (fun vs H Q E h => ?_) (fun cdv A outer s H vs Q E hr h => ?_)
  · obtain ⟨b, ws, rfl, _⟩ := h
    rfl
  · obtain ⟨b, ws, rfl, hb, hl, hw, k⟩ := h
    have nd := sc_is_turn.nd
    refine ⟨_, PSs.nox (pss_one (ps_ret (pe_and (pe_cal L hr (pa_cons (pv 0) pa_nil)) (pe_and (pe_cmpR op_le (pe_callB call_len_seq (by rfl) mLen boot_len (pa_cons (pv 0) pa_nil)) (pe_glob (v := .int 3) (by rfl) gM ⟨_, rfl⟩) (nomark _))
      (pe_one (pe_callB (cr_all rfl) (by rfl) mA PyProof.Rows.Boot.«all» (pa_cons (pe_lc (own := [("kind", 1)]) (g := gName 1) (tt := tYes) rfl nd (pi_lt (pv 0)) (blkOk_by (N := ["thing", "kind"]) (sc := defScope s_is_turn) (by decide +kernel)) (fun _ _ _ _ _ => pg_name (i := 1) nd rfl (Or.inl rfl)) (fun _ _ _ _ _ => pts_nil) (fun _ _ _ _ _ => pe_cal N hr (pa_cons (pv 1) pa_nil))) pa_nil))))))), ?_⟩
    obtain ⟨t, ht, hk⟩ := Lw.LT.ty (K := K) hb
    refine ⟨_, rfl, _, t, rfl, ht, hk, fun H1 s1 => ⟨true, rfl, iteT ?_⟩⟩
    have hb1 := hb.same s1
    refine ⟨_, rfl, b, _, rfl, Lw.LT.seq hb1, (ws.map V.str).length, 3, rfl, rfl, ?_⟩
    refine ⟨_, rfl, ite_of (fun _ => ?_) (fun hc => ?_)⟩
    rotate_left
    · exfalso
      have := of_decide_eq_false hc
      rw [List.length_map] at this
      omega
    refine ⟨_, rfl, b, rfl, ?_⟩
    have turn : ∀ (D : Addr), H1 D = none → ∀ (i : Nat) (y : V) (H2 : Hp), (ws.map V.str)[i]? = some y → (Same H1 H2 ∧ H2 D = some (.lst ((List.replicate i true).map V.bl))) → gName 1 y (wipe [some (V.ref b), none] [1]) H2 fun σ2 H3 => wipe σ2 [1] = wipe [some (V.ref b), none] [1] ∧ tYes σ2 H3 fun c H4 =>
        if c = true then tCall (sp_isname K) [] E0 (tCons (tVar 1) tNil) σ2 H4 fun z H5 => ∃ acc, H5 D = some (.lst acc) ∧ acc.length < sizeLine ∧ (Same H1 (upd H5 D (.lst (acc ++ [z]))) ∧ (upd H5 D (.lst (acc ++ [z]))) D = some (.lst ((List.replicate (i + 1) true).map V.bl))) else (Same H1 H4 ∧ H4 D = some (.lst ((List.replicate (i + 1) true).map V.bl))) := by
      intro D hD i y H2 hy ⟨s2, hd⟩
      rw [List.getElem?_map] at hy
      obtain ⟨x, ex, ey⟩ := Option.map_eq_some_iff.mp hy
      subst ey
      have hi : i < ws.length := (List.getElem?_eq_some_iff.mp ex).1
      have hx := hw x (List.mem_of_getElem? ex)
      refine ⟨rfl, yes_of (iteT ⟨_, rfl, _, rfl, .inl ⟨x, rfl, (by have := nameB_len hx; omega), fun H3 s3 => ⟨_, s3 _ _ hd, ?_, ?_, ?_⟩⟩⟩)⟩
      · rw [List.length_map, List.length_replicate, sizeLine_eq]
        omega
      · intro c o e
        rw [upd_ne (ne_of_none e hD)]
        exact s3 _ _ (s2 _ _ e)
      · rw [upd_same, hx, List.replicate_succ', List.map_append]
        rfl
    have fin : ∀ (D : Addr) (H2 : Hp), (Same H1 H2 ∧ H2 D = some (.lst ((List.replicate (ws.map V.str).length true).map V.bl))) → ∃ (a : Addr) (bs : List Bool), V.ref D = V.ref a ∧ SqL K H2 a (bs.map V.bl) ∧ Q (.bl (bs.all id)) H2 := fun D H2 ⟨s2, hd⟩ => by
      refine ⟨D, _, rfl, SqL.of hd, ?_⟩
      rw [all_true]
      exact k _ (s1.trans s2)
    rcases hb1 with hb1 | hb1
    · refine .inl ⟨⟨_, SqL.of hb1⟩, fun D hD => lc_list (K := K) (a := b) (xs := ws.map V.str) (fun i H2 => Same H1 H2 ∧ H2 D = some (.lst ((List.replicate i true).map V.bl))) ⟨same_new hD, upd_same⟩ (fun i H2 _ ⟨s2, _⟩ => SqL.of (s2 _ _ hb1)) (turn D hD) fun H2 hp => ?_⟩
      obtain ⟨a, bs, e, z1, z2⟩ := fin D H2 hp
      exact ⟨a, bs, congrArg (fun v => [v]) e, z1, z2⟩
    · refine .inr ⟨⟨_, SqT.of hb1⟩, fun D hD => lc_tup (K := K) (a := b) (xs := ws.map V.str) (fun i H2 => Same H1 H2 ∧ H2 D = some (.lst ((List.replicate i true).map V.bl))) ⟨same_new hD, upd_same⟩ (fun i H2 _ ⟨s2, _⟩ => SqT.of (s2 _ _ hb1)) (turn D hD) fun H2 hp => ?_⟩
      obtain ⟨a, bs, e, z1, z2⟩ := fin D H2 hp
      exact ⟨a, bs, congrArg (fun v => [v]) e, z1, z2⟩
def sp_isbrought : Sp := fun vs H Q _ => ∃ i : Int, vs = [.int i] ∧ 1 ≤ i ∧ i ≤ 9 ∧ Q (.bl true) H
theorem ok_is_brought (F : FnP K "is_brought" s_is_brought [] f fd) (I : Cal P w K mg base 1 "is_integer" [] (sp_isint K)) {t1 : Tok} (gM : mg "MOST_BROUGHT" = some (.int 9 t1)) : FnOk P w K mg base CX0 2 f fd ["thing"] sp_isbrought := by
  refine F.ok sc_is_brought (fun vs H Q E h => ?_) (fun cdv A outer s H vs Q E hr h => ?_)
  · obtain ⟨i, rfl, _⟩ := h
    rfl
  · obtain ⟨i, rfl, h1, h9, k⟩ := h
    refine ⟨_, PSs.nox (pss_one (ps_ret (pe_and (pe_cal I hr (pa_cons (pv 0) pa_nil)) (pe_one (pe_chain op_le op_le pe_int (pv 0) (pe_glob (v := .int 9) (by rfl) gM ⟨_, rfl⟩)))))), ?_⟩
    refine ⟨_, rfl, i, rfl, true, rfl, iteT ⟨_, rfl, 1, i, rfl, rfl, _, rfl, ?_⟩⟩
    rw [decide_eq_true h1]
    refine iteT ⟨i, 9, rfl, rfl, ?_⟩
    show Q (.bl (decide (i ≤ 9))) H
    rw [decide_eq_true h9]
    exact k
/-! ### pairs -/
def KTup (K : PySem.W.Frag) (a : Addr) : Prop := ∀ H, SqT K H a [] ∧ TyX K H (.ref a) (.type "tuple")
def PArg (K : PySem.W.Frag) (H : Hp) (a : Addr) (kvs : List (Key × V)) : Prop := H a = some (.dK kvs) ∨ kvs = [] ∧ (H a = some (.tup []) ∨ H a = some (.lst []) ∨ KTup K a)
theorem sqT_same {K : PySem.W.Frag} {a : Addr} {H H' : Hp} {xs : List V} (h : SqT K H a xs) (k : Same H H') : SqT K H' a xs := by
  rcases h with (h | ⟨o, h⟩) | h
  · exact .inl (.inl (k _ _ h))
  · exact .inl (.inr ⟨o, k _ _ h⟩)
  · exact .inr h
theorem PArg.imp {H H' : Hp} {a : Addr} {kvs : List (Key × V)} (h : PArg K H a kvs) (k : ∀ o, (o = .dK kvs ∨ o = .tup [] ∨ o = .lst []) → H a = some o → H' a = some o) : PArg K H' a kvs := by
  rcases h with h | ⟨e, h | h | h⟩
  · exact .inl (k _ (.inl rfl) h)
  · exact .inr ⟨e, .inl (k _ (.inr (.inl rfl)) h)⟩
  · exact .inr ⟨e, .inr (.inl (k _ (.inr (.inr rfl)) h))⟩
  · exact .inr ⟨e, .inr (.inr h)⟩
theorem PArg.same {H H' : Hp} {a : Addr} {kvs : List (Key × V)} (h : PArg K H a kvs) (k : Same H H') : PArg K H' a kvs := h.imp fun o _ e => k _ _ e
def sp_pairs (K : PySem.W.Frag) : Sp := fun vs H Q _ => ∃ (a : Addr) (kvs : List (Key × V)), vs = [.ref a] ∧ PArg K H a kvs ∧
  ∀ (l : Addr) (ts : List Addr) (H' : Hp), H l = none → Same H H' → H' l = some (.lst (ts.map V.ref)) → Paired (fun (t : Addr) (q : Key × V) => H' t = some (.tup [kV q.1, q.2])) ts kvs → Q (.ref l) H'
theorem ok_pairs (F : FnP K "pairs_of" s_pairs_of [] f fd) (I : Cal P w K mg base 1 "is_list" [] (sp_islist K)) (mI : mg "isinstance" = none) (mD : mg "dict" = none) (mL : mg "list" = none) (mLen : mg "len" = none) :
    FnOk P w K mg base CX0 2 f fd ["thing"] (sp_pairs K) := by
  refine F.ok sc_pairs_of (fun vs H Q E h => ?_) (fun cdv A outer s H vs Q E hr h => ?_)
  · obtain ⟨v, t, rfl, _⟩ := h
    rfl
  · obtain ⟨a, kvs, rfl, ha, k⟩ := h
    refine ⟨_, PSs.nox (pss_cons (ps_if (pt_val (pe_callB call_isi (by rfl) mI PyProof.Rows.Boot.«isinstance» (pa_cons (pv 0) (pa_cons (pe_bltn (v := .ty "dict") (by rfl) mD PyProof.Rows.Boot.«dict» rfl) pa_nil))))
        (pss_one (ps_ret (LiI.pe_listItems rfl (pv 0) (by rfl) mL PyProof.Rows.Boot.«list»))) pss_nil)
      (pss_cons (ps_if (PW.pt (pw_and (pt_val (pe_cal I hr (pa_cons (pv 0) pa_nil))) (pw_and1 (pt_cmpR op_eq (pe_callB call_len_seq (by rfl) mLen boot_len (pa_cons (pv 0) pa_nil)) pe_int (nomark _)))))
        (pss_one (ps_ret (pe_lst pa_nil))) pss_nil)
      (pss_one ps_never))), ?_⟩
    rcases ha with ha | ⟨e, ha⟩
    · refine ifs_of ⟨_, rfl, _, .ty "dict", .type "dict", .type "dict", true, rfl, .ty _, .base (.dK ha), kit_ty (by decide +kernel), _, rfl, iteT ?_⟩
      exact ⟨_, rfl, a, _, rfl, ha, fun H' p ts sm hp _ _ hl hP => k p ts H' hp sm hl hP⟩
    · subst e
      have fin : ∀ H', Same H H' → ∀ p, H' p = none → Q (.ref p) (upd H' p (.lst [])) := fun H' sm p hp => k p [] _ (free_same sm hp) (sm.trans (same_new hp)) upd_same .nil
      have c2 : (H a = some (.lst [])) ∨ (SqT K H a [] ∧ TyX K H (.ref a) (.type "tuple")) := by
        rcases ha with ha | ha | ha
        · exact .inr ⟨SqT.of ha, .base (.tup ha)⟩
        · exact .inl ha
        · exact .inr (ha H)
      rcases c2 with ha | ⟨ha, ty⟩
      · refine ifs_of ⟨_, rfl, _, .ty "dict", _, .type "dict", false, rfl, .ty _, .base (.lst ha), kit_ty (by decide +kernel), _, rfl, iteF (nx_of ?_)⟩
        refine ifs_of ⟨_, rfl, _, _, rfl, .base (.lst ha), any_list, fun H' sm => ⟨_, rfl, iteT ⟨_, rfl, a, [], rfl, .inl (SqL.of (sm _ _ ha)), rfl, _, rfl, iteT ⟨Nat.zero_le _, fun p hp => fin H' sm p hp⟩⟩⟩⟩
      · refine ifs_of ⟨_, rfl, _, .ty "dict", _, .type "dict", false, rfl, .ty _, ty, kit_ty (by decide +kernel), _, rfl, iteF (nx_of ?_)⟩
        refine ifs_of ⟨_, rfl, _, _, rfl, ty, any_tuple, fun H' sm => ⟨_, rfl, iteT ⟨_, rfl, a, [], rfl, .inr (sqT_same ha sm), rfl, _, rfl, iteT ⟨Nat.zero_le _, fun p hp => fin H' sm p hp⟩⟩⟩⟩
end
end Lw
/-! ## StB -/
set_option Elab.async false
set_option linter.all false
set_option maxRecDepth 100000
set_option maxHeartbeats 8000000
set_option pp.deepTerms false
set_option pp.deepTerms.threshold 3
set_option pp.maxSteps 500
namespace Sl
open PySem PySem.Spec PyProof.Rows L2
theorem perm_back {α β : Type} {f : α → β} : ∀ {ys : List β} {l : List α}, ys.Perm (l.map f) → ∃ l' : List α, l'.Perm l ∧ l'.map f = ys
  | [], l, h => by
    have e : l.map f = [] := List.nil_perm.mp h
    have e2 : l = [] := List.map_eq_nil_iff.mp e
    exact ⟨[], by rw [e2], rfl⟩
  | y :: r, l, h => by
    have hy : y ∈ l.map f := h.subset List.mem_cons_self
    obtain ⟨a, ha, e⟩ := List.mem_map.mp hy
    obtain ⟨s, t, el⟩ := List.append_of_mem ha
    subst el
    have pm : (s ++ a :: t).Perm (a :: (s ++ t)) := List.perm_middle
    have h2 : (y :: r).Perm (y :: (s ++ t).map f) := h.trans (by rw [← e, ← List.map_cons]; exact pm.map f)
    obtain ⟨l', p1, p2⟩ := perm_back (ys := r) (l := s ++ t) (List.Perm.cons_inv h2)
    exact ⟨a :: l', (List.Perm.cons a p1).trans pm.symm, by rw [List.map_cons, e, p2]⟩
theorem paired_zip {α β : Type} {R : α → β → Prop} : ∀ {xs : List α} {ys : List β}, Paired R xs ys → ∃ ps : List (α × β), ps.map (·.1) = xs ∧ ps.map (·.2) = ys ∧ ∀ p ∈ ps, R p.1 p.2
  | _, _, .nil => ⟨[], rfl, rfl, fun _ h => absurd h List.not_mem_nil⟩
  | x :: _, y :: _, .cons r t => by
    obtain ⟨ps, h1, h2, h3⟩ := paired_zip t
    refine ⟨(x, y) :: ps, by rw [List.map_cons, h1], by rw [List.map_cons, h2], fun p hp => ?_⟩
    rcases List.mem_cons.mp hp with e | e
    · rw [e]
      exact r
    · exact h3 p e
theorem zip_paired {α β : Type} {R : α → β → Prop} : ∀ {ps : List (α × β)}, (∀ p ∈ ps, R p.1 p.2) → Paired R (ps.map (·.1)) (ps.map (·.2))
  | [], _ => .nil
  | p :: r, h => .cons (h p List.mem_cons_self) (zip_paired fun q hq => h q (List.mem_cons_of_mem _ hq))
theorem inj_of_nodup {α β : Type} {g : α → β} : ∀ {l : List α}, (l.map g).Nodup → ∀ x ∈ l, ∀ y ∈ l, g x = g y → x = y
  | [], _, x, hx, _, _, _ => absurd hx List.not_mem_nil
  | a :: r, h, x, hx, y, hy, e => by
    obtain ⟨h1, h2⟩ := List.nodup_cons.mp (show (g a :: r.map g).Nodup from h)
    rcases List.mem_cons.mp hx with ex | ex
    · rcases List.mem_cons.mp hy with ey | ey
      · rw [ex, ey]
      · exact absurd (List.mem_map.mpr ⟨y, ey, by rw [← e, ex]⟩) h1
    · rcases List.mem_cons.mp hy with ey | ey
      · exact absurd (List.mem_map.mpr ⟨x, ex, by rw [e, ey]⟩) h1
      · exact inj_of_nodup h2 x ex y ey e
def kAt (H : Hp) : V → Str
  | .ref t => match H t with
    | some (.tup (.str z :: _)) => z
    | _ => ""
  | _ => ""
/-- sorted(pairs): the same pairs, by their names -/
theorem sorted_pairs {α : Type} {nm : α → Str} {vl : α → V} {H : Hp} {K : PySem.W.Frag} {l : Addr} {ts : List Addr} {as : List α} {Q : VK} (hl : SqL K H l (ts.map V.ref)) (hP : Paired (fun (t : Addr) (a : α) => H t = some (.tup [.str (nm a), vl a])) ts as) (hn : (as.map nm).Nodup)
    (k : ∀ (ts' : List Addr) (as' : List α) (p : Addr), Paired (fun (t : Addr) (a : α) => H t = some (.tup [.str (nm a), vl a])) ts' as' → as'.Perm as → (as'.map nm).Pairwise leS → H p = none → Q (.ref p) (upd H p (.lst (ts'.map V.ref)))) : rSortedSP K [V.ref l] H Q := by
  obtain ⟨ps, e1, e2, hps⟩ := paired_zip hP
  subst e1 e2
  have kp : ∀ p ∈ ps, kAt H (.ref p.1) = nm p.2 := fun p hp => by
    show kAt H (.ref p.1) = _
    simp only [kAt, hps p hp]
  have hn' : (ps.map fun p => nm p.2).Nodup := by
    rw [List.map_map] at hn
    exact hn
  refine ⟨l, (ps.map (·.1)).map V.ref, kAt H, rfl, hl, fun x hx => ?_, fun x hx y hy e => ?_, fun ys p so pm hp => ?_⟩
  · rw [List.map_map] at hx
    obtain ⟨q, hq, rfl⟩ := List.mem_map.mp hx
    exact ⟨q.1, vl q.2, rfl, by show H q.1 = some (.tup [.str (kAt H (.ref q.1)), _]); rw [kp q hq]; exact hps q hq⟩
  · rw [List.map_map] at hx hy
    obtain ⟨q, hq, rfl⟩ := List.mem_map.mp hx
    obtain ⟨r, hr, rfl⟩ := List.mem_map.mp hy
    have e' : nm q.2 = nm r.2 := by
      have : kAt H (.ref q.1) = kAt H (.ref r.1) := e
      rwa [kp q hq, kp r hr] at this
    have : q = r := by
      exact inj_of_nodup hn' q hq r hr e'
    rw [this]
  · have pm2 : ys.Perm (ps.map fun q : Addr × α => V.ref q.1) := by
      rw [List.map_map] at pm
      exact pm
    obtain ⟨ps', p1, p2⟩ := perm_back pm2
    have e3 : ys = (ps'.map (·.1)).map V.ref := by
      rw [← p2, List.map_map]
      exact List.map_congr_left fun _ _ => rfl
    subst e3
    refine k (ps'.map (·.1)) (ps'.map (·.2)) p (zip_paired fun q hq => hps q (p1.mem_iff.mp hq)) (p1.map _) ?_ hp
    have so' : ((ps'.map (·.1)).map V.ref).Pairwise (fun a b => ltk (kAt H) b a = false) := so
    rw [List.map_map, List.pairwise_map] at so'
    rw [List.map_map, List.pairwise_map]
    refine List.Pairwise.imp_of_mem (fun {a b} ha hb h => ?_) so'
    have h1 := kp a (p1.mem_iff.mp ha)
    have h2 := kp b (p1.mem_iff.mp hb)
    have h3 : decide ((kAt H (.ref b.1)).cps.toList < (kAt H (.ref a.1)).cps.toList) = false := h
    rw [h1, h2] at h3
    exact of_decide_eq_false h3
end Sl
namespace Lw
open PySem PySem.Spec PyProof.Rows L2 Sl
section
variable {P : Program} {w : World} {K : PySem.W.Frag} {mg : Str → Option Value} {base : Heap} {f : Addr} {fd : FuncData}
def rTO (K : PySem.W.Frag) : List V → Hp → VK → Prop := fun xs H Q => ∃ p ys, xs = [.ref p] ∧ ((SqL K H p ys ∧ ∀ l, H l = none → Q (.ref l) (upd H l (.tup ys))) ∨ (SqT K H p ys ∧ Q (.ref p) H))
/-- turns told by lists or tuples -/
def TAt (H : Hp) (T : TT') : Prop := ∀ t ∈ T, LT H t.2.1 (t.2.2.map V.str) ∧ t.2.2.length ≤ 3 ∧ ∀ z ∈ t.2.2, nameB z = true
theorem TAt.same {H H' : Hp} {T : TT'} (h : TAt H T) (k : Same H H') : TAt H' T := fun t ht => ⟨(h t ht).1.same k, (h t ht).2⟩
structure okT (T : TT') : Prop where
  nd : (T.map (·.1)).Nodup
  nm : ∀ t ∈ T, nameB t.1 = true
  ln : T.length ≤ 60
/-- what a statement keeps of them -/
structure TKeep (T' T : TT') : Prop where
  so : (T'.map (·.1)).Pairwise leS
  pm : (ct T').Perm (ct T)
def sp_cturns (K : PySem.W.Frag) : Sp := fun vs H Q _ => ∃ (a : Addr) (T : TT'), vs = [.ref a] ∧ PArg K H a (T.map tkv) ∧ TAt H T ∧ okT T ∧ ∀ (d : Addr) (T' : TT') (H' : Hp), H d = none → Same H H' → TupsAt H' d T' → TKeep T' T → Q (.ref d) H'
abbrev ctN : List Str := ["told", "pairs", "kind", "kinds"]
theorem ok_cturns (F : FnP K "checked_turns" s_checked_turns [] f fd) (Pr : Cal P w K mg base 2 "pairs_of" [] (sp_pairs K)) (N : Cal P w K mg base 1 "is_name" [] (sp_isname K)) (I : Cal P w K mg base 2 "is_turn" [] sp_isturn) (mT : mg "tuple" = none) (mS : mg "sorted" = none) :
    FnOk P w K mg base CX0 3 f fd ["told"] (sp_cturns K) := by
  refine F.ok sc_checked_turns (fun vs H Q E h => ?_) (fun cdv A outer s H vs Q E hr h => ?_)
  · obtain ⟨a, T, rfl, _⟩ := h
    rfl
  · obtain ⟨a, T, rfl, ha, hT, oT, k⟩ := h
    have nd := sc_checked_turns.nd
    have hr1 := hr.mono (show 1 ≤ 2 by decide)
    refine ⟨_, PSs.nox (pss_cons (ps_set (i := 1) nd rfl (.inl rfl) (pe_cal Pr hr (pa_cons (pv 0) pa_nil)))
      (pss_cons (ps_for PassesOwn.never rfl (pi_list (pv 1)) (pg_tup rfl (pgs_cons (pg_name (i := 2) nd rfl (Or.inl rfl)) (pgs_cons (pg_name (i := 3) nd rfl (Or.inl rfl)) pgs_nil)))
        (pss_one (ps_if (PW.pt (pw_or (pt_not (pt_val (pe_cal N hr1 (pa_cons (pv 2) pa_nil)))) (pw_or1 (pt_not (pt_val (pe_cal I hr (pa_cons (pv 3) pa_nil))))))) (pss_one ps_never) pss_nil)))
      (pss_one (ps_ret (pe_dc (own := [("kind", 2), ("kinds", 3)]) (g := gTup K 2 (gCons (gName 2) (gCons (gName 3) gNil))) (tt := tYes) (tv := tCB (rTO K) (tCons (tVar 3) tNil)) rfl nd (pi_list (pe_callB (r := rSortedSP K) (cr_sortedSP) (by rfl) mS (by decide +kernel) (pa_cons (pv 1) pa_nil))) (blkOk_by (N := ctN) (sc := defScope s_checked_turns) (by decide +kernel))
        (fun _ _ _ _ _ => pg_two (i := 2) (j := 3) rfl nd rfl rfl (Or.inl rfl) (Or.inl rfl)) (fun _ _ _ _ _ => pts_nil) (fun _ _ _ _ _ => pv 2) (fun _ _ _ _ _ => pe_callTy (r := rTO K) call_tuple_of (by rfl) mT (by decide +kernel) (pa_cons (pv 3) pa_nil))))))), ?_⟩
    show tSeq (tAsg _ (gName 1)) _ _ [some (V.ref a), none, none, none] H
    refine asg_of ⟨_, rfl, a, T.map tkv, rfl, ha, fun l ts H1 hl1 s1 hls hP0 => ?_⟩
    have hP : Paired (fun (t : Addr) (u : Str × Addr × List Str) => H1 t = some (.tup [.str u.1, .ref u.2.1])) ts T := by
      obtain ⟨ps, e1, e2, hps⟩ := paired_zip hP0
      obtain ⟨qs, e3, e4⟩ : ∃ qs : List (Addr × (Str × Addr × List Str)), qs.map (·.1) = ts ∧ qs.map (·.2) = T ∧ ps = qs.map fun q => (q.1, tkv q.2) := by
        have hl : ts.length = T.length := by rw [← e1, List.length_map, ← List.length_map (f := (·.2)) (as := ps), e2, List.length_map]
        refine ⟨ts.zip T, ?_, ?_, ?_⟩
        · rw [List.map_fst_zip (by omega)]
        · rw [List.map_snd_zip (by omega)]
        · refine List.ext_getElem? fun i => ?_
          rw [List.getElem?_map]
          by_cases hi : i < ts.length
          · have hi2 : i < T.length := by omega
            have hi3 : i < ps.length := by rw [← e1, List.length_map] at hi; exact hi
            rw [List.getElem?_eq_getElem hi3, List.getElem?_eq_getElem (by rw [List.length_zip]; omega), List.getElem_zip]
            have a1 : ps[i].1 = ts[i] := by
              have : (ps.map (·.1))[i]? = ts[i]? := by rw [e1]
              rw [List.getElem?_map, List.getElem?_eq_getElem hi3, List.getElem?_eq_getElem hi] at this
              exact Option.some.inj this
            have a2 : ps[i].2 = tkv T[i] := by
              have : (ps.map (·.2))[i]? = (T.map tkv)[i]? := by rw [e2]
              rw [List.getElem?_map, List.getElem?_map, List.getElem?_eq_getElem hi3, List.getElem?_eq_getElem hi2] at this
              exact Option.some.inj this
            exact congrArg some (Prod.ext a1 a2)
          · have hi3 : ¬ i < ps.length := by rw [← e1, List.length_map] at hi; exact hi
            rw [List.getElem?_eq_none (by omega), List.getElem?_eq_none (by rw [List.length_zip]; omega)]
            rfl
      obtain ⟨e4, e5⟩ := e4
      rw [← e3, ← e4]
      refine zip_paired fun q hq => ?_
      exact hps (q.1, tkv q.2) (by rw [e5]; exact List.mem_map.mpr ⟨q, hq, rfl⟩)
    have tup : ∀ (i : Nat) (t : Addr), ts[i]? = some t → ∃ u, T[i]? = some u ∧ H1 t = some (.tup [.str u.1, .ref u.2.1]) := fun i t e => paired_at hP e
    show tSeq (tFor (iList K (tVar 1)) _ _) _ _ [some (V.ref a), some (V.ref l), none, none] H1
    refine ⟨_, rfl, l, rfl, ⟨_, SqL.of hls⟩, ?_⟩
    refine for_list (K := K) (a := l) (xs := ts.map V.ref) (fun i σ H' => Same H1 H' ∧ ∃ y z, σ = [some (V.ref a), some (V.ref l), y, z]) ⟨fun _ _ e => e, none, none, rfl⟩ (fun i σ H' _ ⟨s2, _⟩ => SqL.of (s2 _ _ hls)) ?_ ?_
    · rintro i x σ H' hx ⟨s2, y, z, rfl⟩
      rw [List.getElem?_map] at hx
      obtain ⟨t, et, ex⟩ := Option.map_eq_some_iff.mp hx
      subst ex
      obtain ⟨u, hu, ht⟩ := tup i t et
      have huT := List.mem_of_getElem? hu
      have hnm := oT.nm u huT
      obtain ⟨lt, l3, hz⟩ := hT.same (s1.trans s2) u huT
      refine ⟨t, _, rfl, SqT.of (s2 _ _ ht), rfl, _, _, rfl, _, _, rfl, rfl, ?_⟩
      refine or_of ⟨_, rfl, _, rfl, .inl ⟨u.1, rfl, (by have := nameB_len hnm; omega), fun H3 s3 => ⟨_, rfl, ?_⟩⟩⟩
      rw [hnm]
      refine iteF ⟨_, rfl, u.2.1, u.2.2, rfl, lt.same s3, l3, hz, fun H4 s4 => ⟨true, rfl, iteF ⟨s2.trans (s3.trans s4), _, _, rfl⟩⟩⟩
    · rintro σ H2 ⟨s2, y, z, rfl⟩
      have hls2 := s2 _ _ hls
      have hP2 : Paired (fun (t : Addr) (u : Str × Addr × List Str) => H2 t = some (.tup [.str u.1, V.ref u.2.1])) ts T := paired_same (fun _ _ r => s2 _ _ r) hP
      refine ⟨_, rfl, ?_⟩
      dsimp only [tNil]
      refine sorted_pairs (nm := fun u : Str × Addr × List Str => u.1) (vl := fun u => V.ref u.2.1) (SqL.of hls2) hP2 oT.nd fun ts' T1 p hP3 pm so hp => ?_
      refine ⟨p, rfl, ⟨_, SqL.of upd_same⟩, fun D hD => ?_⟩
      have s3 := s2.trans (same_new (o := .lst (ts'.map V.ref)) hp)
      have ep : (upd H2 p (.lst (ts'.map V.ref))) p = some (.lst (ts'.map V.ref)) := upd_same
      have hP4 : Paired (fun (t : Addr) (u : Str × Addr × List Str) => (upd H2 p (.lst (ts'.map V.ref))) t = some (.tup [.str u.1, V.ref u.2.1])) ts' T1 := paired_same (fun _ _ r => same_new hp _ _ r) hP3
      generalize upd H2 p (.lst (ts'.map V.ref)) = H3 at s3 ep hP4 hD
      have hT3 := hT.same (s1.trans s3)
      have lts : ts'.length = T1.length := hP4.length
      have lT1 : T1.length = T.length := pm.length_eq
      have nT1 : (T1.map (·.1)).Nodup := (pm.map _).nodup_iff.mpr oT.nd
      refine dc_it (walk_list (xs := ts'.map V.ref)) (fun i H' => Same H3 H' ∧ ∃ T' : TT', ct T' = ct (T1.take i) ∧ H' D = some (.dK (T'.map tkv)) ∧ ∀ t ∈ T', H' t.2.1 = some (.tup (t.2.2.map V.str)) ∧ ∀ z ∈ t.2.2, nameB z = true)
        ⟨same_new hD, [], rfl, upd_same, fun _ h => absurd h List.not_mem_nil⟩ (fun i H' _ ⟨s4, _⟩ => SqL.of (s4 _ _ ep)) ?_ ?_
      · rintro i x Ha Hb hi ⟨s4, T', eT, hdD, hT'⟩ ⟨e, hx⟩
        subst e
        rw [List.getElem?_map] at hx
        obtain ⟨t, et, ex⟩ := Option.map_eq_some_iff.mp hx
        subst ex
        obtain ⟨u, hu, ht⟩ := paired_at hP4 et
        have huT := pm.mem_iff.mp (List.mem_of_getElem? hu)
        obtain ⟨lt, l3, hz⟩ := hT3 u huT
        have lt4 := lt.same s4
        have fk : u.1 ∉ T'.map (·.1) := by
          rw [← kg_ct, eT, kg_ct]
          intro hm
          have h1 : ((T1.take (i + 1)).map (·.1)).Nodup := List.Nodup.sublist (List.Sublist.map _ (List.take_sublist _ _)) nT1
          rw [List.take_succ, hu, List.map_append, List.nodup_append] at h1
          exact h1.2.2 u.1 hm u.1 (List.mem_map.mpr ⟨u, List.mem_singleton.mpr rfl, rfl⟩) rfl
        have lT' : T'.length ≤ 60 := by
          have h1 : (ct T').length = T'.length := List.length_map _
          have h2 : (ct (T1.take i)).length = (T1.take i).length := List.length_map _
          rw [← h1, eT, h2, List.length_take]
          have := oT.ln
          omega
        have fin : ∀ (v : Addr) (H5 : Hp), Same Hb H5 → H5 v = some (.tup (u.2.2.map V.str)) → ∃ kvs kk, V.str u.1 = kV kk ∧ H5 D = some (.dK kvs) ∧ kvs.length < sizeLine ∧ (Same H3 (upd H5 D (.dK (putK kvs kk (.ref v)))) ∧ ∃ T2 : TT', ct T2 = ct (T1.take (i + 1)) ∧ (upd H5 D (.dK (putK kvs kk (.ref v)))) D = some (.dK (T2.map tkv)) ∧ ∀ t ∈ T2, (upd H5 D (.dK (putK kvs kk (.ref v)))) t.2.1 = some (.tup (t.2.2.map V.str)) ∧ ∀ z ∈ t.2.2, nameB z = true) := by
          intro v H5 s5 hv
          have hD5 := s5 _ _ hdD
          refine ⟨_, .inr u.1, rfl, hD5, by rw [List.length_map, sizeLine_eq]; omega, fun c o e => ?_, T' ++ [(u.1, v, u.2.2)], ?_, ?_, fun q hq => ?_⟩
          · rw [upd_ne (ne_of_none e hD)]
            exact s5 _ _ (s4 _ _ e)
          · show List.map _ _ = List.map _ _
            rw [List.map_append, List.take_succ, hu, List.map_append]
            show ct T' ++ _ = ct (T1.take i) ++ _
            rw [eT]
            rfl
          · rw [upd_same, putK_tkv T' u.1 v u.2.2 fk]
          · have ne : ∀ {c : Addr} {xs : List V}, H5 c = some (.tup xs) → c ≠ D := fun {c xs} h z => by rw [z, hD5] at h; cases h
            rcases List.mem_append.mp hq with h | h
            · have := s5 _ _ (hT' q h).1
              rw [upd_ne (ne this)]
              exact ⟨this, (hT' q h).2⟩
            · rw [List.mem_singleton.mp h]
              show (upd H5 D _) v = _ ∧ _
              rw [upd_ne (ne hv)]
              exact ⟨hv, hz⟩
        refine ⟨t, _, rfl, SqT.of (s4 _ _ ht), rfl, _, _, rfl, _, _, rfl, rfl, rfl, yes_of (iteT ⟨_, rfl, _, rfl, u.2.1, u.2.2.map V.str, rfl, ?_⟩)⟩
        rcases lt4 with h | h
        · exact .inl ⟨SqL.of h, fun v hv => fin v _ (same_new hv) upd_same⟩
        · exact .inr ⟨SqT.of h, fin u.2.1 _ (fun _ _ e => e) h⟩
      · rintro H4 ⟨s4, T', eT, hdD, hT'⟩
        rw [List.length_map, lts, List.take_length] at eT
        refine k D T' H4 (free_same (s1.trans s3) hD) (s1.trans (s3.trans s4)) ⟨hdD, hT'⟩ ⟨?_, ?_⟩
        · rw [← kg_ct, eT, kg_ct]
          exact so
        · rw [eT]
          exact pm.map _
end
end Lw
/-! ## SlSetDc -/
set_option Elab.async false
set_option linter.all false
set_option maxRecDepth 100000
set_option maxHeartbeats 4000000
namespace Sl
open PySem PySem.Spec PyProof.Rows L2
section
variable {X : Cx}
theorem sw_dc {ka va : Expr} {gg : List Comprehension} {sc : Scope} {pc pn : Pos} {z : Str} {ln : Nat} {en : Env} (h1 : en.scope.kind = .function) (h2 : en.scope.names.lookup z = some .local) (h3 : (pn.line == pc.line) = true)
    (h4 : (sc.names.any fun (n, k) => n == z && (k == .local || k == .cell)) = false) : swapsWith (.DictComp ka va gg sc pc) (some (.Name z pn)) ln en = pure true := by
  have q1 : en.kindOf z = some .local := h2
  have q2 : en.blockKind = .function := by
    unfold Env.blockKind
    rw [h1]
    rfl
  unfold swapsWith
  simp only [q2, q1, h4, Expr.pos, h3]
  rfl
/-- name = {..: .. for ..}, the name a local -/
theorem ps_setDc {i : Nat} {z : Str} {pz : Pos} {ka va tg iter : Expr} {ifs : List Expr} {sc : Scope} {own : List (Str × Nat)} {pc ps : Pos} {wi : TI} {g : TG} {tt : TT} {tk tv : TE} (calm : X.calm = true) (nn : X.N.Nodup) (hz : X.N[i]? = some z) (lz : X.env.scope.names.lookup z = some .local)
    (sw : swapsWith (.DictComp ka va [⟨tg, iter, ifs, 0⟩] sc pc) (some (.Name z pz)) ps.line X.env = pure true) (hi : PI X tg iter wi) (bo : BlkOk X.N X.env.scope sc own)
    (h1 : ∀ s H C cl fp, PG (X.blk s H sc (compEnvC sc cl C X.env) fp) tg g) (h2 : ∀ s H C cl fp, PTs (X.blk s H sc (compEnvC sc cl C X.env) fp) ifs tt)
    (h3 : ∀ s H C cl fp, PE (X.blk s H sc (compEnvC sc cl C X.env) fp) ka tk) (h4 : ∀ s H C cl fp, PE (X.blk s H sc (compEnvC sc cl C X.env) fp) va tv) (hf : ∀ x, foldedSetIterable iter X.env x = pure x := by intro _; rfl) :
    PS X (.Assign [.Name z pz] (.DictComp ka va [⟨tg, iter, ifs, 0⟩] sc pc) ps) (tAsg (tDc wi g tt tk tv (own.map (·.2))) (gName i)) := by
  refine ⟨fun pp st σ G D I q => ?_⟩
  rw [exec_Assign_Name_used _ _ _ _ sw]
  refine wpAny_bind (wpAny_standAt (wpAny_bind ?_))
  show wpAny _ X.A (do
    let _ ← comprehension (.DictComp ka va [⟨tg, iter, ifs, 0⟩] sc pc) sc X.env (firstIterPos [⟨tg, iter, ifs, 0⟩] pc) newDict false (eval iter X.env) (some (assign (.Name z pz) X.env))) _ _ st
  have q' : tDc wi g tt tk tv (own.map (·.2)) σ G (fun x G1 => gName i x σ G1 D.nx) := q
  refine wpAny_bind (thn (dc_core (Qf := fun _ st' => SP X pp D .next st') calm nn I hi bo h1 h2 h3 h4 hf q' fun L C st' m G' I' q2 hm fp => ?_) fun _ st' z2 => wpAny_pure (wpAny_pure z2))
  show wpAny _ _ (assign (.Name z pz) X.env (.ref L)) _ _ _
  refine wpAny_assign_Name (store_ok2 (v := V.ref L) I' nn hz (.inl lz) rfl (fun s2 I2 ⟨a, sb, ha⟩ => ?_) (.inr lz))
  obtain ⟨e0, e1, e2, e3, e4, e5⟩ := fp
  have nCa : C ≠ a := by
    rcases ha with w | w
    · rw [w]
      exact e1
    · exact fun e => e4 z a w e.symm
  refine ⟨m, hm.sameBut sb nCa, fun h9 sb9 => ?_⟩
  exact ⟨_, G', I2.turned (t' := s2.toks) (fun b o hb e => (sb9.2 b hb).trans e) e0 e1 e3 e4 e5, q2⟩
end
end Sl
/-! ## StC -/
set_option Elab.async false
set_option linter.all false
set_option maxRecDepth 100000
set_option maxHeartbeats 8000000
set_option pp.deepTerms false
set_option pp.deepTerms.threshold 3
set_option pp.maxSteps 500
namespace Sl
open PySem PySem.Spec PyProof.Rows L2
theorem paired_unmap {α β γ : Type} {R : α → γ → Prop} {f : β → γ} : ∀ {xs : List α} {ys : List β}, Paired R xs (ys.map f) → Paired (fun x y => R x (f y)) xs ys
  | _, [], h => by
    cases h
    exact .nil
  | _, y :: r, h => by
    cases h with
    | cons h t => exact .cons h (paired_unmap t)
theorem kit_self (K : PySem.W.Frag) (C : Addr) : PySem.W.kitOne K (.ref C) (.ref C) = some true := by
  unfold PySem.W.kitOne
  rw [beq_self_eq_true, if_pos rfl]
end Sl
namespace Lw
open PySem PySem.Spec PyProof.Rows L2 Sl
section
variable {P : Program} {w : World} {K : PySem.W.Frag} {mg : Str → Option Value} {base : Heap} {f : Addr} {fd : FuncData} {C : Addr}
theorem if1_of {c : TT} {t u : TS} {D : Ends} {σ : L2.St} {H : Hp} (h : c σ H fun b H1 => if b = true then t D σ H1 else u D σ H1) : tIfS c t u D σ H := h
structure okB (B : NI) : Prop where
  nd : (ks B).Nodup
  nm : ∀ b ∈ B, nameB b.1 = true
  vl : ∀ b ∈ B, 1 ≤ b.2 ∧ b.2 ≤ 9
  ln : B.length ≤ 60
def sp_cbrings (K : PySem.W.Frag) : Sp := fun vs H Q _ => ∃ (a : Addr) (B : NI), vs = [.ref a] ∧ PArg K H a (B.map kvi) ∧ okB B ∧ ∀ (d : Addr) (B' : NI) (H' : Hp), H d = none → Same H H' → H' d = some (dI B') → (ks B').Pairwise leS → B'.Perm B → Q (.ref d) H'
abbrev cbN : List Str := ["told", "pairs", "kind", "number"]
theorem ok_cbrings (F : FnP K "checked_brings" s_checked_brings [] f fd) (Pr : Cal P w K mg base 2 "pairs_of" [] (sp_pairs K)) (N : Cal P w K mg base 1 "is_name" [] (sp_isname K)) (I : Cal P w K mg base 2 "is_brought" [] sp_isbrought) (mS : mg "sorted" = none) :
    FnOk P w K mg base CX0 3 f fd ["told"] (sp_cbrings K) := by
  refine F.ok sc_checked_brings (fun vs H Q E h => ?_) (fun cdv A outer s H vs Q E hr h => ?_)
  · obtain ⟨a, B, rfl, _⟩ := h
    rfl
  · obtain ⟨a, B, rfl, ha, oB, k⟩ := h
    have nd := sc_checked_brings.nd
    have hr1 := hr.mono (show 1 ≤ 2 by decide)
    refine ⟨_, PSs.nox (pss_cons (ps_set (i := 1) nd rfl (.inl rfl) (pe_cal Pr hr (pa_cons (pv 0) pa_nil)))
      (pss_cons (ps_for PassesOwn.never rfl (pi_list (pv 1)) (pg_tup rfl (pgs_cons (pg_name (i := 2) nd rfl (Or.inl rfl)) (pgs_cons (pg_name (i := 3) nd rfl (Or.inl rfl)) pgs_nil)))
        (pss_one (ps_if (PW.pt (pw_or (pt_not (pt_val (pe_cal N hr1 (pa_cons (pv 2) pa_nil)))) (pw_or1 (pt_not (pt_val (pe_cal I hr (pa_cons (pv 3) pa_nil))))))) (pss_one ps_never) pss_nil)))
      (pss_one (ps_ret (pe_dc (own := [("kind", 2), ("number", 3)]) (g := gTup K 2 (gCons (gName 2) (gCons (gName 3) gNil))) (tt := tYes) rfl nd (pi_list (pe_callB (r := rSortedSP K) (cr_sortedSP) (by rfl) mS (by decide +kernel) (pa_cons (pv 1) pa_nil))) (blkOk_by (N := cbN) (sc := defScope s_checked_brings) (by decide +kernel))
        (fun _ _ _ _ _ => pg_two (i := 2) (j := 3) rfl nd rfl rfl (Or.inl rfl) (Or.inl rfl)) (fun _ _ _ _ _ => pts_nil) (fun _ _ _ _ _ => pv 2) (fun _ _ _ _ _ => pv 3)))))), ?_⟩
    show tSeq (tAsg _ (gName 1)) _ _ [some (V.ref a), none, none, none] H
    refine asg_of ⟨_, rfl, a, B.map kvi, rfl, ha, fun l ts H1 hl1 s1 hls hP0 => ?_⟩
    have hP : Paired (fun (t : Addr) (u : Str × Int) => H1 t = some (.tup [.str u.1, .int u.2])) ts B := paired_unmap (R := fun (t : Addr) (q : Key × V) => H1 t = some (.tup [kV q.1, q.2])) hP0
    show tSeq (tFor (iList K (tVar 1)) _ _) _ _ [some (V.ref a), some (V.ref l), none, none] H1
    refine ⟨_, rfl, l, rfl, ⟨_, SqL.of hls⟩, ?_⟩
    refine for_list (K := K) (a := l) (xs := ts.map V.ref) (fun i σ H' => Same H1 H' ∧ ∃ y z, σ = [some (V.ref a), some (V.ref l), y, z]) ⟨fun _ _ e => e, none, none, rfl⟩ (fun i σ H' _ ⟨s2, _⟩ => SqL.of (s2 _ _ hls)) ?_ ?_
    · rintro i x σ H' hx ⟨s2, y, z, rfl⟩
      rw [List.getElem?_map] at hx
      obtain ⟨t, et, ex⟩ := Option.map_eq_some_iff.mp hx
      subst ex
      obtain ⟨u, hu, ht⟩ := paired_at hP et
      have huB := List.mem_of_getElem? hu
      have hnm := oB.nm u huB
      obtain ⟨v1, v9⟩ := oB.vl u huB
      refine ⟨t, _, rfl, SqT.of (s2 _ _ ht), rfl, _, _, rfl, _, _, rfl, rfl, ?_⟩
      refine or_of ⟨_, rfl, _, rfl, .inl ⟨u.1, rfl, (by have := nameB_len hnm; omega), fun H3 s3 => ⟨_, rfl, ?_⟩⟩⟩
      rw [hnm]
      exact iteF ⟨_, rfl, u.2, rfl, v1, v9, true, rfl, iteF ⟨s2.trans s3, _, _, rfl⟩⟩
    · rintro σ H2 ⟨s2, y, z, rfl⟩
      have hls2 := s2 _ _ hls
      have hP2 : Paired (fun (t : Addr) (u : Str × Int) => H2 t = some (.tup [.str u.1, V.int u.2])) ts B := paired_same (fun _ _ r => s2 _ _ r) hP
      refine ⟨_, rfl, ?_⟩
      dsimp only [tNil]
      refine sorted_pairs (nm := fun u : Str × Int => u.1) (vl := fun u => V.int u.2) (SqL.of hls2) hP2 oB.nd fun ts' B1 p hP3 pm so hp => ?_
      refine ⟨p, rfl, ⟨_, SqL.of upd_same⟩, fun D hD => ?_⟩
      have s3 := s2.trans (same_new (o := .lst (ts'.map V.ref)) hp)
      have ep : (upd H2 p (.lst (ts'.map V.ref))) p = some (.lst (ts'.map V.ref)) := upd_same
      have hP4 : Paired (fun (t : Addr) (u : Str × Int) => (upd H2 p (.lst (ts'.map V.ref))) t = some (.tup [.str u.1, V.int u.2])) ts' B1 := paired_same (fun _ _ r => same_new hp _ _ r) hP3
      generalize upd H2 p (.lst (ts'.map V.ref)) = H3 at s3 ep hP4 hD
      have lts : ts'.length = B1.length := hP4.length
      have lB1 : B1.length = B.length := pm.length_eq
      have nB1 : (ks B1).Nodup := (pm.map _).nodup_iff.mpr oB.nd
      refine dc_it (walk_list (xs := ts'.map V.ref)) (fun i H' => Same H3 H' ∧ H' D = some (dI (B1.take i))) ⟨same_new hD, upd_same⟩ (fun i H' _ ⟨s4, _⟩ => SqL.of (s4 _ _ ep)) ?_ ?_
      · rintro i x Ha Hb hi ⟨s4, hdD⟩ ⟨e, hx⟩
        subst e
        rw [List.getElem?_map] at hx
        obtain ⟨t, et, ex⟩ := Option.map_eq_some_iff.mp hx
        subst ex
        obtain ⟨u, hu, ht⟩ := paired_at hP4 et
        refine ⟨t, _, rfl, SqT.of (s4 _ _ ht), rfl, _, _, rfl, _, _, rfl, rfl, rfl, yes_of (iteT ⟨_, rfl, _, rfl, _, .inr u.1, rfl, hdD, ?_, ?_, ?_⟩)⟩
        · rw [List.length_map, List.length_take, sizeLine_eq]
          have := oB.ln
          omega
        · intro c o e
          rw [upd_ne (ne_of_none e hD)]
          exact s4 _ _ e
        · rw [upd_same, putK_new _ _ _ (take_fresh nB1 hu), List.take_succ, hu]
          rfl
      · rintro H4 ⟨s4, hdD⟩
        rw [List.length_map, lts, List.take_length] at hdD
        exact k D B1 H4 (free_same (s1.trans s3) hD) (s1.trans (s3.trans s4)) hdD so pm
/-! ### statements -/
structure StmC (K : PySem.W.Frag) (C : Addr) : Prop where
  cl : Cls K C
  nT : NoAttr K C "_turns"
  nB : NoAttr K C "_brings"
  ca : PySem.W.findIn K (.ref C) "__class__" = some (some (.builtin "object.__class__"))
  sg : PySem.W.specialIn K (.builtin "object.__class__") "__get__" = some (some (.builtin "getset_descriptor.__get__"))
  tk : PySem.W.takesIn K (.builtin "object.__class__") = some true
  ob : PySem.W.mroIn K C (.type "object") = some true
def StmX (H : Hp) (C t : Addr) (T : TT') (B : NI) (dx d e : Addr) : Prop := H t = some (.ins C dx [("_turns", .ref d), ("_brings", .ref e)]) ∧ TupsAt H d T ∧ H e = some (dI B)
/-- the content of a statement -/
structure SOk (S : CT) (B : NI) : Prop where
  cs : Cg S
  cb : Cg (α := Int) B
  ns : ∀ p ∈ S, nameB p.1 = true ∧ p.2.length ≤ 3 ∧ ∀ z ∈ p.2, nameB z = true
  nb : ∀ b ∈ B, nameB b.1 = true ∧ 1 ≤ b.2 ∧ b.2 ≤ 9
  ls : S.length ≤ 8
  lb : B.length ≤ 8
def StmAt (H : Hp) (C t : Addr) (S : CT) (B : NI) : Prop := ∃ dx d e T, StmX H C t T B dx d e ∧ ct T = S ∧ SOk S B ∧ d ≠ e
/-- .., its dicts new since H0 -/
def StmFr (H0 H : Hp) (C t : Addr) (S : CT) (B : NI) : Prop := ∃ dx d e T, StmX H C t T B dx d e ∧ ct T = S ∧ SOk S B ∧ d ≠ e ∧ H0 d = none ∧ H0 e = none
theorem StmFr.at_ {H0 H : Hp} {C t : Addr} {S : CT} {B : NI} (h : StmFr H0 H C t S B) : StmAt H C t S B := let ⟨dx, d, e, T, x, r1, r2, r3, _⟩ := h; ⟨dx, d, e, T, x, r1, r2, r3⟩
theorem StmFr.old {H0 H1 H : Hp} {C t : Addr} {S : CT} {B : NI} (h : StmFr H1 H C t S B) (k : ∀ c, H1 c = none → H0 c = none) : StmFr H0 H C t S B := let ⟨dx, d, e, T, x, r1, r2, r3, r4, r5⟩ := h; ⟨dx, d, e, T, x, r1, r2, r3, k _ r4, k _ r5⟩
theorem StmFr.imp {H0 H H' : Hp} {C t : Addr} {S : CT} {B : NI} (h : StmFr H0 H C t S B) (k : ∀ c o, H c = some o → ((∃ dx fs, o = .ins C dx fs) ∨ (∃ xs, o = .tup xs) ∨ H0 c = none ∧ ∃ kvs, o = .dK kvs) → H' c = some o) : StmFr H0 H' C t S B := by
  obtain ⟨dx, d, e, T, ⟨x1, x2, x3⟩, r1, r2, r3, r4, r5⟩ := h
  exact ⟨dx, d, e, T, ⟨k _ _ x1 (.inl ⟨_, _, rfl⟩), ⟨k _ _ x2.1 (.inr (.inr ⟨r4, _, rfl⟩)), fun u hu => ⟨k _ _ (x2.2 u hu).1 (.inr (.inl ⟨_, rfl⟩)), (x2.2 u hu).2⟩⟩, k _ _ x3 (.inr (.inr ⟨r5, _, rfl⟩))⟩, r1, r2, r3, r4, r5⟩
theorem StmX.same {H H' : Hp} {C t : Addr} {T : TT'} {B : NI} {dx d e : Addr} (h : StmX H C t T B dx d e) (k : Same H H') : StmX H' C t T B dx d e := ⟨k _ _ h.1, h.2.1.same k, k _ _ h.2.2⟩
theorem StmAt.same {H H' : Hp} {C t : Addr} {S : CT} {B : NI} (h : StmAt H C t S B) (k : Same H H') : StmAt H' C t S B := let ⟨dx, d, e, T, x, r⟩ := h; ⟨dx, d, e, T, x.same k, r⟩
theorem TAt.imp {H H' : Hp} {T : TT'} (h : TAt H T) (k : ∀ (b : Addr) (xs : List V), LT H b xs → LT H' b xs) : TAt H' T := fun t ht => ⟨k _ _ (h t ht).1, (h t ht).2⟩
def sp_sinit (K : PySem.W.Frag) (C : Addr) : Sp := fun vs H Q _ => ∃ (t dx a b : Addr) (T : TT') (B : NI), vs = [.ref t, .ref a, .ref b] ∧ H t = some (.ins C dx []) ∧ PArg K H a (T.map tkv) ∧ TAt H T ∧ okT T ∧ PArg K H b (B.map kvi) ∧ okB B ∧ T.length ≤ 8 ∧ B.length ≤ 8 ∧
  ∀ (H' : Hp) (S' : CT) (B' : NI), Keep t H H' → StmFr H H' C t S' B' → S'.Perm (ct T) → B'.Perm B → Q .non H'
theorem sok_of {T T' : TT'} {B B' : NI} {H : Hp} (oT : okT T) (hT : TAt H T) (oB : okB B) (kT : TKeep T' T) (kB : (ks B').Pairwise leS) (pB : B'.Perm B) (lT : T.length ≤ 8) (lB : B.length ≤ 8) : SOk (ct T') B' := by
  have nT : (kg (ct T')).Nodup := (kg_perm kT.pm).nodup_iff.mpr (by rw [kg_ct]; exact oT.nd)
  refine ⟨⟨by rw [kg_ct]; exact kT.so, nT⟩, ⟨kB, (pB.map _).nodup_iff.mpr oB.nd⟩, fun p hp => ?_, fun b hb => ⟨oB.nm b (pB.mem_iff.mp hb), oB.vl b (pB.mem_iff.mp hb)⟩, ?_, by rw [pB.length_eq]; exact lB⟩
  · obtain ⟨t, ht, rfl⟩ := List.mem_map.mp (kT.pm.mem_iff.mp hp)
    exact ⟨oT.nm t ht, (hT t ht).2⟩
  · rw [kT.pm.length_eq]
    show (List.map _ _).length ≤ 8
    rw [List.length_map]
    exact lT
theorem ok_sinit {dvs : List V} (F : FunD K "__init__" "Statement.__init__" (defArgs s_Statement___init__) (defBody s_Statement___init__) (defScope s_Statement___init__) dvs [] f fd) (G : StmC K C) (Ct : Cal P w K mg base 3 "checked_turns" [] (sp_cturns K)) (Cb : Cal P w K mg base 3 "checked_brings" [] (sp_cbrings K)) :
    FnOk P w K mg base CX0 4 f fd ["self", "turns", "brings"] (sp_sinit K C) := by
  refine F.ok sc_Statement___init__ (fun vs H Q E h => ?_) (fun cdv A outer s H vs Q E hr h => ?_)
  · obtain ⟨t, dx, a, b, T, B, rfl, _⟩ := h
    rfl
  · obtain ⟨t, dx, a, b, T, B, rfl, ht, ha, hT, oT, hb, oB, lT, lB, k⟩ := h
    refine ⟨_, PSs.nox (pss_cons (ps_fld (pv 0) (pe_cal Ct hr (pa_cons (pv 1) pa_nil)) rfl) (pss_one (ps_fld (pv 0) (pe_cal Cb hr (pa_cons (pv 2) pa_nil)) rfl))), ?_⟩
    refine ⟨_, rfl, a, T, rfl, ha, hT, oT, fun d T' H1 hd s1 e1 kT => ?_⟩
    refine ⟨_, rfl, t, C, dx, [], rfl, s1 _ _ ht, G.cl, G.nT, by decide, ?_⟩
    have ht1 := s1 _ _ ht
    have nt : d ≠ t := fun e => by rw [e, ht] at hd; cases hd
    have k1 : Keep t H (upd H1 t (.ins C dx (putF "_turns" (V.ref d) []))) := fun c o n e => by rw [upd_ne n]; exact s1 _ _ e
    have eT : (upd H1 t (.ins C dx (putF "_turns" (V.ref d) []))) t = some (.ins C dx [("_turns", .ref d)]) := upd_same
    have dT : TupsAt (upd H1 t (.ins C dx (putF "_turns" (V.ref d) []))) d T' := ⟨by rw [upd_ne nt]; exact e1.1, fun u hu => ⟨by
      have := (e1.2 u hu).1
      rw [upd_ne (fun z => by rw [z, ht1] at this; cases this)]
      exact this, (e1.2 u hu).2⟩⟩
    generalize upd H1 t (.ins C dx (putF "_turns" (V.ref d) [])) = H2 at k1 eT dT
    refine nxs_of ⟨_, rfl, b, B, rfl, hb.imp fun o ho e => k1 _ _ (fun z => ?_) e, oB, fun e B' H3 he s3 e3 kB pB => ?_⟩
    · rw [z, ht] at e
      rcases ho with h | h | h <;> rw [h] at e <;> cases e
    have nte : e ≠ t := fun z => by rw [z, eT] at he; cases he
    have nde : d ≠ e := fun z => by rw [← z, dT.1] at he; cases he
    refine ⟨_, rfl, t, C, dx, _, rfl, s3 _ _ eT, G.cl, G.nB, by show 1 < 1000; decide, ?_⟩
    have e3t := s3 _ _ eT
    refine k _ (ct T') B' (fun c o n e => ?_) ⟨dx, d, e, T', ⟨upd_same, ⟨?_, fun u hu => ⟨?_, (dT.2 u hu).2⟩⟩, ?_⟩, rfl, sok_of oT hT oB kT kB pB lT lB, nde, hd, ?_⟩ kT.pm pB
    · rw [upd_ne n]
      exact s3 _ _ (k1 _ _ n e)
    · rw [upd_ne nt]
      exact s3 _ _ dT.1
    · have := s3 _ _ (dT.2 u hu).1
      rw [upd_ne (fun z => by rw [z, e3t] at this; cases this)]
      exact this
    · rw [upd_ne nte]
      exact e3
    · cases z : H e with
      | none => rfl
      | some o => rw [k1 _ _ nte z] at he; cases he
end
end Lw
/-! ## WdA -/
set_option Elab.async false
set_option linter.all false
set_option maxRecDepth 100000
set_option maxHeartbeats 8000000
namespace Lw
open PySem PySem.Spec PyProof.Rows L2 Sl
section
variable {P : Program} {w : World} {K : PySem.W.Frag} {mg : Str → Option Value} {base : Heap} {f : Addr} {fd : FuncData}
def sp_isoflot : Sp := fun vs H Q _ => ∃ z : Str, vs = [.str z] ∧ Q (.bl (Txt.startswith z "old." || Txt.startswith z "new.")) H
theorem ok_is_of_lot (F : FnP K "is_of_lot" s_is_of_lot [] f fd) {t1 t2 : Tok} (gO : mg "OLD" = some (.str "old." t1)) (gN : mg "NEW" = some (.str "new." t2)) : FnOk P w K mg base CX0 1 f fd ["text"] sp_isoflot := by
  refine F.ok sc_is_of_lot (fun vs H Q E h => ?_) (fun cdv A outer s H vs Q E hr h => ?_)
  · obtain ⟨z, rfl, _⟩ := h
    rfl
  · obtain ⟨z, rfl, k⟩ := h
    refine ⟨_, PSs.nox (pss_one (ps_ret (pe_or (pe_m1 PySem.F.slot_str_startswith PySem.F.type_str_startswith mt_startswith (pv 0) (pe_glob (v := .str "old.") (by rfl) gO ⟨_, rfl⟩)) (pe_one (pe_m1 PySem.F.slot_str_startswith PySem.F.type_str_startswith mt_startswith (pv 0) (pe_glob (v := .str "new.") (by rfl) gN ⟨_, rfl⟩)))))), ?_⟩
    refine ⟨_, rfl, ⟨_, rfl⟩, z, _, rfl, rfl, _, rfl, ite_of (fun h => ?_) (fun h => ⟨_, rfl, ⟨_, rfl⟩, z, _, rfl, rfl, ?_⟩)⟩
    · rw [h, Bool.true_or] at k
      exact k
    · rw [h, Bool.false_or] at k
      exact k
def sp_namein : Sp := fun vs H Q _ => ∃ z : Str, vs = [.str z] ∧ z.length ≤ 1000 ∧ Q (.str (nameIn z)) H
theorem ok_name_in (F : FnP K "name_in" s_name_in [] f fd) (L : Cal P w K mg base 1 "is_of_lot" [] sp_isoflot) (mL : mg "len" = none) {t1 : Tok} (gO : mg "OLD" = some (.str "old." t1)) : FnOk P w K mg base CX0 2 f fd ["word"] sp_namein := by
  refine F.ok sc_name_in (fun vs H Q E h => ?_) (fun cdv A outer s H vs Q E hr h => ?_)
  · obtain ⟨z, rfl, _⟩ := h
    rfl
  · obtain ⟨z, rfl, hz, k⟩ := h
    refine ⟨_, PSs.nox (pss_one (ps_ret (pe_ifExp (pt_val (pe_cal L hr (pa_cons (pv 0) pa_nil))) (pe_slice sl_str (pv 0) (po_some (pe_callB call_len_str (by rfl) mL boot_len (pa_cons (pe_glob (v := .str "old.") (by rfl) gO ⟨_, rfl⟩) pa_nil))) po_none) (pv 0)))), ?_⟩
    unfold nameIn at k
    refine ⟨_, rfl, z, rfl, _, rfl, ite_of (fun h => ?_) (fun h => ?_)⟩
    · rw [if_pos h] at k
      exact ⟨_, rfl, _, rfl, (by decide +kernel), 4, rfl, z, rfl, (by rw [sizeLine_eq]; omega), k⟩
    · rw [if_neg (by rw [h]; exact Bool.false_ne_true)] at k
      exact ⟨_, rfl, k⟩
def sp_isword : Sp := fun vs H Q _ => ∃ z : Str, vs = [.str z] ∧ z.length ≤ 1000 ∧ wordB z = true ∧ ∀ H', Same H H' → Q (.bl true) H'
theorem ok_is_word (F : FnP K "is_word" s_is_word [] f fd) (L : Cal P w K mg base 2 "name_in" [] sp_namein) (N : Cal P w K mg base 1 "is_name" [] (sp_isname K)) (mI : mg "isinstance" = none) (mS : mg "str" = none) : FnOk P w K mg base CX0 3 f fd ["thing"] sp_isword := by
  refine F.ok sc_is_word (fun vs H Q E h => ?_) (fun cdv A outer s H vs Q E hr h => ?_)
  · obtain ⟨z, rfl, _⟩ := h
    rfl
  · obtain ⟨z, rfl, hz, hw, k⟩ := h
    have hr1 := hr.mono (show 1 ≤ 2 by decide)
    refine ⟨_, PSs.nox (pss_one (ps_ret (pe_and (pe_callB call_isi (by rfl) mI PyProof.Rows.Boot.«isinstance» (pa_cons (pv 0) (pa_cons (pe_bltn (v := .ty "str") (by rfl) mS PyProof.Rows.Boot.«str» rfl) pa_nil)))
      (pe_one (pe_cal N hr1 (pa_cons (pe_cal L hr (pa_cons (pv 0) pa_nil)) pa_nil)))))), ?_⟩
    refine ⟨_, rfl, _, .ty "str", .type "str", .type "str", true, rfl, .ty _, .base (.str _), kit_ty (by decide +kernel), _, rfl, iteT ⟨_, rfl, z, rfl, hz, _, rfl, .inl ⟨_, rfl, ?_, fun H' s1 => ?_⟩⟩⟩
    · have := nameB_len hw
      omega
    · have e : nameB (nameIn z) = true := hw
      rw [e]
      exact k H' s1
end
end Lw
/-! ## FmA -/
set_option Elab.async false
set_option linter.all false
set_option maxRecDepth 100000
set_option maxHeartbeats 8000000
set_option pp.deepTerms false
set_option pp.deepTerms.threshold 3
set_option pp.maxSteps 500
namespace Sl
open PySem PySem.Spec PyProof.Rows L2
theorem same_unlock {H H' : Hp} {d : Addr} {u : HO} {od : Obj} (hd : H d = some u) (s : Same (upd H d (.frz od u)) H') : Same H (upd H' d u) := fun c o e => by
  by_cases h : c = d
  · subst h
    rw [upd_same, ← e, hd]
  · rw [upd_ne h]
    exact s _ _ (by rw [upd_ne h]; exact e)
theorem rd_lock {H : Hp} {d e : Addr} {u v : HO} {od : Obj} (hd : H d = some u) (he : H e = some v) : Rd (upd H d (.frz od u)) e v := by
  by_cases h : e = d
  · subst h
    rw [hd] at he
    rw [← Option.some.inj he]
    exact .inr ⟨od, upd_same⟩
  · exact .inl (by rw [upd_ne h]; exact he)
theorem rd_same {H H' : Hp} {a : Addr} {u : HO} (h : Rd H a u) (k : Same H H') : Rd H' a u := by
  rcases h with h | ⟨o, h⟩
  · exact .inl (k _ _ h)
  · exact .inr ⟨o, k _ _ h⟩
theorem free_sameF {H H' : Hp} {a : Addr} (k : Same H H') (h : H' a = none) : H a = none := by
  cases e : H a with
  | none => rfl
  | some o => rw [k _ _ e] at h; cases h
theorem free_lock {H : Hp} {d a : Addr} {u : HO} {od : Obj} (h : (upd H d (.frz od u)) a = none) (hd : H d = some u) : H a = none ∧ a ≠ d := by
  by_cases e : a = d
  · subst e
    rw [upd_same] at h
    cases h
  · rw [upd_ne e] at h
    exact ⟨h, e⟩
theorem getD_kvi (A : NI) (z : Str) : (valV (A.map kvi) (.inr z)).getD (.int 0) = .int (get0 A z) := by
  rw [valV_kvi]
  unfold get0
  cases get? A z <;> rfl
theorem pair_kvi {N : NI} {i : Nat} {H H' : Hp} {x : V} (hi : i < (N.map kvi).length) (y : YPair (fun i => (N.map kvi)[i]?.map fun kv => kV kv.1) (fun i => (N.map kvi)[i]?.map Prod.snd) i H x H') :
    ∃ (T : Addr) (q : Str × Int), N[i]? = some q ∧ x = .ref T ∧ H T = none ∧ H' = upd H T (.tup [.str q.1, .int q.2]) := by
  obtain ⟨T, a, b, h1, hT, h2, ha, hb⟩ := y
  rw [List.length_map] at hi
  have hq : N[i]? = some N[i] := List.getElem?_eq_getElem hi
  dsimp only at ha hb
  rw [List.getElem?_map, hq] at ha hb
  have ea : a = .str N[i].1 := (Option.some.inj ha).symm
  have eb : b = .int N[i].2 := (Option.some.inj hb).symm
  subst ea eb
  exact ⟨T, N[i], hq, h1, hT, h2⟩
end Sl
namespace Lw
open PySem PySem.Spec PyProof.Rows L2 Sl
section
variable {P : Program} {w : World} {K : PySem.W.Frag} {mg : Str → Option Value} {base : Heap} {f : Addr} {fd : FuncData} {C : Addr}
theorem if1_ofF {c : TT} {t u : TS} {D : Ends} {σ : L2.St} {H : Hp} (h : c σ H fun b H1 => if b = true then t D σ H1 else u D σ H1) : tIfS c t u D σ H := h
theorem nxs_ofF {v : TS} {D D' : Ends} {σ : L2.St} {H : Hp} (h : v D σ H) : ({ D' with nx := v D } : Ends).nx σ H := h
def okW (N : NI) : Prop := (ks N).Nodup ∧ (∀ x ∈ ks N, wordB x = true ∧ x.length ≤ 1000) ∧ N.length ≤ 60
def sp_cparts : Sp := fun vs H Q _ => ∃ (d : Addr) (N : NI), vs = [.ref d] ∧ H d = some (dI N) ∧ okW N ∧
  ∀ (d' : Addr) (L : NI) (H' : Hp), H d' = none → Same H H' → H' d' = some (dI L) → Cn L → (∀ x, get0 L x = get0 N x) → (∀ x ∈ ks L, x ∈ ks N) → L.length ≤ N.length → Q (.ref d') H'
abbrev cpN : List Str := ["told", "word", "times"]
theorem ok_cparts (F : FnP K "checked_parts" s_checked_parts [] f fd) (W : Cal P w K mg base 3 "is_word" [] sp_isword) (I : Cal P w K mg base 1 "is_integer" [] (sp_isint K)) (mI : mg "isinstance" = none) (mD : mg "dict" = none) (mS : mg "sorted" = none) : FnOk P w K mg base CX0 4 f fd ["told"] sp_cparts := by
  refine F.ok sc_checked_parts (fun vs H Q E h => ?_) (fun cdv A outer s H vs Q E hr h => ?_)
  · obtain ⟨d, N, rfl, _⟩ := h
    rfl
  · obtain ⟨d, N, rfl, hd, ⟨hn, hw, hl⟩, k⟩ := h
    have nd := sc_checked_parts.nd
    have hu := hu_of hr
    have hr1 := hr.mono (show 1 ≤ 3 by decide)
    refine ⟨_, PSs.nox (pss_cons (ps_if (pt_not (pt_val (pe_callB call_isi (by rfl) mI PyProof.Rows.Boot.«isinstance» (pa_cons (pv 0) (pa_cons (pe_bltn (v := .ty "dict") (by rfl) mD PyProof.Rows.Boot.«dict» rfl) pa_nil))))) (pss_one ps_never) pss_nil)
      (pss_cons (ps_lock (ps_for PassesOwn.never rfl (pi_items (pv 0)) (pg_tup rfl (pgs_cons (pg_name (i := 1) nd rfl (Or.inl rfl)) (pgs_cons (pg_name (i := 2) nd rfl (Or.inl rfl)) pgs_nil)))
        (pss_one (ps_if (PW.pt (pw_or (pt_not (pt_val (pe_cal W hr (pa_cons (pv 1) pa_nil)))) (pw_or1 (pt_not (pt_val (pe_cal I hr1 (pa_cons (pv 2) pa_nil))))))) (pss_one ps_never) pss_nil))))
      (pss_one (ps_ret (pe_dc (own := [("word", 1)]) (g := gName 1) rfl nd (pi_list (pe_callB (call_sortedD rfl) (by rfl) mS (by decide +kernel) (pa_cons (pv 0) pa_nil))) (blkOk_by (N := cpN) (sc := defScope s_checked_parts) (by decide +kernel))
        (fun _ _ _ _ _ => pg_name (i := 1) nd rfl (Or.inl rfl)) (fun _ _ _ _ _ => pts_one (pt_cmpR op_ne (pe_dget hu (pv 0) (pv 1) (fun _ _ => rfl)) pe_int (nomark _))) (fun _ _ _ _ _ => pv 1) (fun _ _ _ _ _ => pe_dget hu (pv 0) (pv 1) (fun _ _ => rfl))))))), ?_⟩
    refine ifs_of ⟨_, rfl, _, .ty "dict", .type "dict", .type "dict", true, rfl, .ty _, .base (.dK hd), kit_ty (by decide +kernel), _, rfl, iteF (nx_of ?_)⟩
    refine ⟨d, dI N, hd, True.intro, fun od => ?_⟩
    have el : (upd H d (.frz od (dI N))) d = some (.frz od (dI N)) := upd_same
    refine ⟨_, rfl, d, od, N.map kvi, rfl, el, ?_⟩
    refine for_it (walk_items (o := od) (d := d) (kvs := N.map kvi)) (fun i σ H' => Same (upd H d (.frz od (dI N))) H' ∧ ∃ y z, σ = [some (V.ref d), y, z]) ⟨fun _ _ e => e, none, none, rfl⟩ (fun i σ H' _ ⟨s2, _⟩ => s2 _ _ el) ?_ ?_
    · rintro i x σ H1 H2 hi ⟨s1, y, z, rfl⟩ hy
      obtain ⟨T, q, hq, rfl, hT, rfl⟩ := pair_kvi hi hy
      have hk : q.1 ∈ ks N := List.mem_map.mpr ⟨q, List.mem_of_getElem? hq, rfl⟩
      refine ⟨T, _, rfl, SqT.of upd_same, rfl, _, _, rfl, _, _, rfl, rfl, ?_⟩
      refine if1_ofF (or_of ⟨_, rfl, q.1, rfl, (hw _ hk).2, (hw _ hk).1, fun H3 s3 => ⟨_, rfl, iteF ⟨_, rfl, q.2, rfl, true, rfl, iteF ⟨s1.trans ((same_new hT).trans s3), _, _, rfl⟩⟩⟩⟩)
    · rintro σ H1 ⟨s1, y, z, rfl⟩
      refine ⟨s1 _ _ el, ?_⟩
      have s2 := same_unlock hd s1
      have hd2 := s2 _ _ hd
      generalize upd H1 d (dI N) = H2 at s2 hd2
      refine ⟨_, rfl, d, N.map kvi, ks N, rfl, .inl hd2, keys_kvi N, (by rw [ks_len]; omega), fun ys p pm so hp => ?_⟩
      refine ⟨p, rfl, ⟨_, SqL.of upd_same⟩, fun D hD => ?_⟩
      have s3 := s2.trans (same_new (o := .lst (ys.map V.str)) hp)
      have ep : (upd H2 p (.lst (ys.map V.str))) p = some (.lst (ys.map V.str)) := upd_same
      generalize upd H2 p (.lst (ys.map V.str)) = H3 at s3 ep hD
      have ny : ys.Nodup := pm.nodup_iff.mpr hn
      refine dc_it (walk_list (xs := ys.map V.str)) (fun i H' => Same H3 H' ∧ H' D = some (dI (lessL N (ys.take i)))) ⟨same_new hD, upd_same⟩ (fun i H' _ ⟨s4, _⟩ => SqL.of (s4 _ _ ep)) ?_ ?_
      · rintro i x Ha Hb hi ⟨s4, hdD⟩ ⟨e, hx⟩
        subst e
        rw [List.getElem?_map] at hx
        obtain ⟨x, ex, ey⟩ := Option.map_eq_some_iff.mp hx
        subst ey
        have hxk := pm.mem_iff.mp (List.mem_of_getElem? ex)
        have hdN := s4 _ _ (s3 _ _ hd)
        have dg := DGet.k (k := .inr x) hdN
        rw [valV_kvi, get?_in hxk] at dg
        refine ⟨rfl, test_of ⟨_, rfl, _, rfl, d, .int (get0 N x), rfl, dg, rfl, _, rfl, ite_of (fun hne => ?_) (fun he => ?_)⟩⟩
        · have hne' : get0 N x ≠ 0 := fun e => by
            rw [e] at hne
            cases hne
          refine ⟨_, rfl, _, rfl, _, rfl, d, .int (get0 N x), rfl, dg, _, .inr x, rfl, hdD, ?_, ?_, ?_⟩
          · have h1 : (lessL N (ys.take i)).length ≤ ys.length := by
              rw [← ks_len, ks_lessL]
              have := List.length_filter_le (fun x => decide (get0 N x ≠ 0)) (ys.take i)
              rw [List.length_take] at this
              omega
            have h2 := pm.length_eq
            rw [ks_len] at h2
            rw [List.length_map, sizeLine_eq]
            omega
          · intro c o e
            rw [upd_ne (ne_of_none e hD)]
            exact s4 _ _ e
          · rw [upd_same, lessL_take ex, if_pos hne', putK_new _ _ _ ?_]
            · rfl
            · rw [ks_lessL]
              intro hm
              have h0 := (List.mem_filter.mp hm).1
              have h1 : (ys.take (i + 1)).Nodup := List.Nodup.sublist (List.take_sublist _ _) ny
              rw [List.take_succ, ex, List.nodup_append] at h1
              exact h1.2.2 x h0 x (List.mem_singleton.mpr rfl) rfl
        · have he' : get0 N x = 0 := by
            have h1 : (!decide (V.int (get0 N x) = V.int 0)) = false := he
            have h2 : decide (V.int (get0 N x) = V.int 0) = true := by simpa using h1
            exact V.int.inj (of_decide_eq_true h2)
          refine ⟨s4, ?_⟩
          rw [lessL_take ex, if_neg (fun h => h he'), List.append_nil]
          exact hdD
      · rintro H4 ⟨s4, hdD⟩
        rw [List.length_map, List.take_length] at hdD
        exact k D _ H4 (free_sameF s3 hD) (s3.trans s4) hdD (lessL_cn hn pm so) (lessL_get hn pm) (fun x => lessL_sub pm) (lessL_len pm)
/-! ### forms -/
structure FormC (K : PySem.W.Frag) (C : Addr) : Prop where
  cl : Cls K C
  nP : NoAttr K C "_parts"
  nN : NoAttr K C "_number"
  ca : PySem.W.findIn K (.ref C) "__class__" = some (some (.builtin "object.__class__"))
  sg : PySem.W.specialIn K (.builtin "object.__class__") "__get__" = some (some (.builtin "getset_descriptor.__get__"))
  tk : PySem.W.takesIn K (.builtin "object.__class__") = some true
  ob : PySem.W.mroIn K C (.type "object") = some true
def FormX (H : Hp) (C t : Addr) (A : NI) (n : Int) (dx d : Addr) : Prop := H t = some (.ins C dx [("_parts", .ref d), ("_number", .int n)]) ∧ H d = some (dI A)
def FormAt (H : Hp) (C t : Addr) (A : NI) (n : Int) : Prop := ∃ dx d, FormX H C t A n dx d
theorem FormX.same {H H' : Hp} {C t : Addr} {A : NI} {n : Int} {dx d : Addr} (h : FormX H C t A n dx d) (k : Same H H') : FormX H' C t A n dx d := ⟨k _ _ h.1, k _ _ h.2⟩
theorem FormAt.same {H H' : Hp} {C t : Addr} {A : NI} {n : Int} (h : FormAt H C t A n) (k : Same H H') : FormAt H' C t A n := let ⟨dx, d, x⟩ := h; ⟨dx, d, x.same k⟩
/-- parts of a form for what N tells -/
structure Prt (A N : NI) : Prop where
  cn : Cn A
  g : ∀ x, get0 A x = get0 N x
  s : ∀ x ∈ ks A, x ∈ ks N
  l : A.length ≤ N.length
theorem Prt.ok {A N : NI} (h : Prt A N) (o : okW N) : okW A := ⟨h.cn.nd, fun x hx => o.2.1 x (h.s x hx), Nat.le_trans h.l o.2.2⟩
def sp_finit (K : PySem.W.Frag) (C : Addr) : Sp := fun vs H Q _ => ∃ (t dx d : Addr) (N : NI) (n : Int), vs = [.ref t, .ref d, .int n] ∧ H t = some (.ins C dx []) ∧ H d = some (dI N) ∧ okW N ∧
  ∀ (H' : Hp) (d1 : Addr) (A : NI), Keep t H H' → H d1 = none → FormX H' C t A n dx d1 → Prt A N → Q .non H'
theorem ok_finit {dvs : List V} (F : FunD K "__init__" "Form.__init__" (defArgs s_Form___init__) (defBody s_Form___init__) (defScope s_Form___init__) dvs [] f fd) (T : FormC K C) (Cp : Cal P w K mg base 4 "checked_parts" [] sp_cparts) (I : Cal P w K mg base 1 "is_integer" [] (sp_isint K)) :
    FnOk P w K mg base CX0 5 f fd ["self", "parts", "number"] (sp_finit K C) := by
  refine F.ok sc_Form___init__ (fun vs H Q E h => ?_) (fun cdv A outer s H vs Q E hr h => ?_)
  · obtain ⟨t, dx, d, N, n, rfl, _⟩ := h
    rfl
  · obtain ⟨t, dx, d, N, n, rfl, ht, hd, hN, k⟩ := h
    have hr1 := hr.mono (show 1 ≤ 4 by decide)
    refine ⟨_, PSs.nox (pss_cons (ps_fld (pv 0) (pe_cal Cp hr (pa_cons (pv 1) pa_nil)) rfl)
      (pss_cons (ps_if (pt_not (pt_val (pe_cal I hr1 (pa_cons (pv 2) pa_nil)))) (pss_one ps_never) pss_nil) (pss_one (ps_fld (pv 0) (pv 2) rfl)))), ?_⟩
    refine ⟨_, rfl, d, N, rfl, hd, hN, fun d1 L H1 hd1 s1 e1 cn g0 sb ll => ?_⟩
    refine ⟨_, rfl, t, C, dx, [], rfl, s1 _ _ ht, T.cl, T.nP, by decide, ?_⟩
    have nt : d1 ≠ t := fun e => by rw [e, ht] at hd1; cases hd1
    refine nxs_ofF (ifs_of ⟨_, rfl, n, rfl, true, rfl, iteF (nx_of ?_)⟩)
    refine ⟨_, rfl, _, rfl, t, C, dx, _, rfl, upd_same, T.cl, T.nN, (by show 1 < 1000; decide), ?_⟩
    refine k _ d1 L (fun c o n e => ?_) hd1 ⟨upd_same, ?_⟩ ⟨cn, g0, sb, ll⟩
    · rw [upd_ne n, upd_ne n]
      exact s1 _ _ e
    · rw [upd_ne nt, upd_ne nt]
      exact e1
structure FormF (P : Program) (w : World) (K : PySem.W.Frag) (mg : Str → Option Value) (base : Heap) (C : Addr) : Prop where
  g : mg "Form" = some (.ref C)
  T : FormC K C
  ex : ∃ (fI : Addr) (fdI : FuncData), Mk K C fI ∧ FnOk P w K mg base CX0 5 fI fdI ["self", "parts", "number"] (sp_finit K C) ∧ Binds K fdI ["self", "parts", "number"] [] ∧ ∃ t : Tok, Binds K fdI ["self", "parts", "number"] [.int 0 t]
theorem fmake_k {H1 : Hp} {Q : VK} {E : XK} {d : Addr} {N : NI} {n : Int} (hd : H1 d = some (dI N)) (o : okW N) (k : ∀ x dx d1 A H', H1 x = none → H1 d1 = none → Same H1 H' → FormX H' C x A n dx d1 → Prt A N → Q (.ref x) H') :
    ∀ x dx, H1 x = none → H1 dx = none → dx ≠ x → sp_finit K C [.ref x, .ref d, .int n] (upd (upd H1 dx (.own x)) x (.ins C dx [])) (fun v H2 => v = .non ∧ Q (.ref x) H2) E := by
  intro x dx hx hdx ne
  have s0 : Same H1 (upd (upd H1 dx (.own x)) x (.ins C dx [])) := fun c o e => by
    rw [upd_ne (ne_of_none e hx), upd_ne (ne_of_none e hdx)]
    exact e
  exact ⟨x, dx, d, N, n, rfl, upd_same, s0 _ _ hd, o, fun H' d1 A kp f1 fx pr => ⟨rfl, k x dx d1 A H' hx (free_sameF s0 f1) (fun c o e => kp c o (ne_of_none e hx) (s0 c o e)) fx pr⟩⟩
section
variable {X : Cx} {e1 e2 : Expr} {t : TA} {p pos : Pos}
theorem pe_form2 (h : FormF X.prog X.w X.K X.mg X.base C) (hr : Room 6 X.A) (ha : PA X [e1, e2] t) (hg : Gl X "Form" := by rfl)
    (he : starEach [e1, e2] X.env = (false, eval e1 X.env) :: starEach [e2] X.env := by rfl) (hpl : (backTo pos (starEach [e2] X.env)).any (·.1) = false := by rfl) :
    PE X (.Call (.Name "Form" p) [e1, e2] [] pos) (tMake C (sp_finit X.K C) [] E0 t) := by
  obtain ⟨fI, fdI, M, F, b, _⟩ := h.ex
  exact pe_make M F hr hg h.g b .nil pass0 ha (by decide) he hpl
theorem pe_form1 (h : FormF X.prog X.w X.K X.mg X.base C) (hr : Room 6 X.A) (ha : PA X [e1] t) (hg : Gl X "Form" := by rfl)
    (he : starEach [e1] X.env = (false, eval e1 X.env) :: starEach [] X.env := by rfl) (hpl : (backTo pos (starEach [] X.env)).any (·.1) = false := by rfl) :
    PE X (.Call (.Name "Form" p) [e1] [] pos) (tMake C (sp_finit X.K C) [.int 0] E0 t) := by
  obtain ⟨fI, fdI, M, F, _, tk, b⟩ := h.ex
  exact pe_make M F hr hg h.g b (show Vals [V.int 0] [Value.int 0 tk] from .cons ⟨_, rfl⟩ .nil) pass0 ha (by decide) he hpl
end
end
end Lw
/-! ## Ad -/
set_option Elab.async false
set_option linter.all false
set_option maxRecDepth 100000
set_option maxHeartbeats 4000000
/-! Ad: promises read before, told of trees; own work. -/
namespace Lw
open PySem PySem.Spec PyProof.Rows L2 Sl
section
variable {K : PySem.W.Frag} {C : Addr}
theorem smake_k {H1 : Hp} {Q : VK} {E : XK} {a b : Addr} {T : TT'} {B : NI} (ha : PArg K H1 a (T.map tkv)) (hT : TAt H1 T) (oT : okT T) (hb : PArg K H1 b (B.map kvi)) (oB : okB B) (lT : T.length ≤ 8) (lB : B.length ≤ 8)
    (k : ∀ x H' S' B', H1 x = none → Same H1 H' → StmFr H1 H' C x S' B' → S'.Perm (ct T) → B'.Perm B → Q (.ref x) H') :
    ∀ x dx, H1 x = none → H1 dx = none → dx ≠ x → sp_sinit K C [.ref x, .ref a, .ref b] (upd (upd H1 dx (.own x)) x (.ins C dx [])) (fun v H2 => v = .non ∧ Q (.ref x) H2) E := by
  intro x dx hx hdx ne
  have s0 : Same H1 (upd (upd H1 dx (.own x)) x (.ins C dx [])) := fun c o e => by
    rw [upd_ne (ne_of_none e hx), upd_ne (ne_of_none e hdx)]
    exact e
  refine ⟨x, dx, a, b, T, B, rfl, upd_same, ha.same s0, hT.same s0, oT, hb.same s0, oB, lT, lB, fun H' S' B' kp st p1 p2 => ⟨rfl, k x H' S' B' hx (fun c o e => kp c o (ne_of_none e hx) (s0 c o e)) (st.old fun c h => free_same s0 h) p1 p2⟩⟩
end
end Lw
namespace Tr
open PySem PySem.Spec PyProof.Rows L2 _root_.Sl Lw
section
variable {K : PySem.W.Frag} {p : Option Addr} {G : Addr → Prop} {n : Nat} {H : Hp}
theorem Rs.backM {ts : List T} {vs : List V} {v : V} (h : Rs K p H ts vs) (e : v ∈ vs) : ∃ t ∈ ts, R K p H t v := by
  obtain ⟨i, hi⟩ := List.mem_iff_getElem?.mp e
  obtain ⟨t, et, rt⟩ := h.back hi
  exact ⟨t, List.mem_iff_getElem?.mpr ⟨i, et⟩, rt⟩
theorem Rs.sub {ts : List T} {vs ws : List V} (h : Rs K p H ts vs) (s : ws.Sublist vs) : ∃ us, us.Sublist ts ∧ Rs K p H us ws := by
  induction s generalizing ts with
  | slnil => cases h; exact ⟨[], .slnil, .nil⟩
  | cons a s ih =>
    cases h with
    | cons h1 h2 =>
      obtain ⟨us, s1, r1⟩ := ih h2
      exact ⟨us, .cons _ s1, r1⟩
  | cons_cons a s ih =>
    cases h with
    | cons h1 h2 =>
      obtain ⟨us, s1, r1⟩ := ih h2
      exact ⟨_ :: us, .cons_cons _ s1, .cons h1 r1⟩
theorem Rs.perm {vs ws : List V} (s : List.Perm ws vs) : ∀ {ts : List T}, Rs K p H ts vs → ∃ us, us.Perm ts ∧ Rs K p H us ws := by
  induction s with
  | nil => intro ts h; cases h; exact ⟨[], .nil, .nil⟩
  | cons x s ih =>
    intro ts h
    cases h with
    | cons h1 h2 =>
      obtain ⟨us, p1, r1⟩ := ih h2
      exact ⟨_ :: us, .cons _ p1, .cons h1 r1⟩
  | swap x y l =>
    intro ts h
    cases h with
    | cons h1 h2 =>
      cases h2 with
      | cons h2 h3 => exact ⟨_, .swap _ _ _, .cons h2 (.cons h1 h3)⟩
  | trans s1 s2 ih1 ih2 =>
    intro ts h
    obtain ⟨us, p1, r1⟩ := ih2 h
    obtain ⟨ws, p2, r2⟩ := ih1 r1
    exact ⟨ws, p2.trans p1, r2⟩
theorem src_ne {a b : Addr} {o : HO} (w : Wld (some a) G n H) (h : hid G H b = some o) : b ≠ a := fun e => (hid_to h).1 (e ▸ w.hd a rfl)
theorem two_of {t1 t2 : T} {vs : List V} {Hh : Hp} (r : Rs K p Hh [t1, t2] vs) : ∃ v1 v2, vs = [v1, v2] ∧ R K p Hh t1 v1 ∧ R K p Hh t2 v2 := by
  cases r with
  | cons r1 r =>
    cases r with
    | cons r2 r =>
      cases r
      exact ⟨_, _, rfl, r1, r2⟩
theorem src_of {Hh : Hp} {v : V} (r : R K p Hh .src v) : ∃ a, p = some a ∧ v = .ref a := by
  cases r with
  | src e => exact ⟨_, e, rfl⟩
theorem lst_of {Hh : Hp} {v : V} {xs : List T} (r : R K p Hh (.lst xs) v) : ∃ a vs, v = .ref a ∧ Hh a = some (.lst vs) ∧ Rs K p Hh xs vs := by
  cases r with
  | lst h r => exact ⟨_, _, rfl, h, r⟩
theorem strs_of {Hh : Hp} {a : Addr} {xs : List Str} {vs : List V} (h : Hh a = some (.lst vs)) (r : Rs K p Hh (xs.map T.str) vs) : Hh a = some (.lst (xs.map V.str)) := by rw [h, r.ofStrs]
def pickW : WF := fun ts n k => ∃ xs, ts = [.src, .lst xs] ∧ n ≤ 100000 ∧ 0 < xs.length ∧ xs.length ≤ 100000 ∧ ∀ x ∈ xs, k x (n + 1)
theorem mo_pickW : MonoF pickW := fun ts n k k' hk ⟨xs, e, h1, h2, h3, q⟩ => ⟨xs, e, h1, h2, h3, fun x hx => hk _ _ (q x hx)⟩
theorem pick_imp (vs : List V) (H : Hp) (Q : VK) (E : XK) (h : spT K pickW vs H Q E) : sp_pick K vs H Q E := by
  obtain ⟨p, G, ts, n, w, r, xs, rfl, h1, h2, h3, q⟩ := h
  obtain ⟨v1, v2, rfl, r1, r2⟩ := two_of r
  obtain ⟨a, rfl, rfl⟩ := src_of r1
  obtain ⟨b, us, rfl, hb, rs⟩ := lst_of r2
  refine ⟨a, b, us, n, rfl, (w.src _ rfl).2, h1, SqL.of (hid_in _ _ hb), src_ne w hb, by rw [rs.length]; exact h2, by rw [rs.length]; exact h3, fun v H' hv s k => ?_⟩
  obtain ⟨t, ht, rt⟩ := rs.backM hv
  exact q t ht v H' (keep_kp k) (w.of_keep k s) (rt.kp w.hd (keep_kp k))
def subsetW : WF := fun ts n k => ∃ xs, ts = [.src, .lst xs] ∧ n ≤ 98000 ∧ xs.length ≤ 60 ∧ ∀ zs : List T, zs.Sublist xs → k (.lst zs) (n + xs.length)
theorem mo_subsetW : MonoF subsetW := fun ts n k k' hk ⟨xs, e, h1, h2, q⟩ => ⟨xs, e, h1, h2, fun x hx => hk _ _ (q x hx)⟩
theorem subset_imp (vs : List V) (H : Hp) (Q : VK) (E : XK) (h : spT K subsetW vs H Q E) : sp_subset K vs H Q E := by
  obtain ⟨p, G, ts, n, w, r, xs, rfl, h1, h2, q⟩ := h
  obtain ⟨v1, v2, rfl, r1, r2⟩ := two_of r
  obtain ⟨a, rfl, rfl⟩ := src_of r1
  obtain ⟨b, us, rfl, hb, rs⟩ := lst_of r2
  refine ⟨a, b, us, n, rfl, (w.src _ rfl).2, h1, SqL.of (hid_in _ _ hb), src_ne w hb, by rw [rs.length]; exact h2, fun c zs H' sb hc e s k => ?_⟩
  obtain ⟨zt, s1, rz⟩ := rs.sub sb
  rw [rs.length] at s
  exact q zt s1 _ H' (keep_kp k) (w.of_keep k s) (.lst (hid_of (w.fresh hc) e) (rz.kp w.hd (keep_kp k)))
def someW : WF := fun ts n k => ∃ xs, ts = [.src, .lst xs] ∧ n ≤ 97000 ∧ 1 ≤ xs.length ∧ xs.length ≤ 60 ∧ ∀ F zs : List T, F.Perm xs → zs.Sublist F → 1 ≤ zs.length → k (.lst zs) (n + xs.length + 1)
theorem mo_someW : MonoF someW := fun ts n k k' hk ⟨xs, e, h1, h2, h3, q⟩ => ⟨xs, e, h1, h2, h3, fun F x a b c => hk _ _ (q F x a b c)⟩
theorem some_imp (vs : List V) (H : Hp) (Q : VK) (E : XK) (h : spT K someW vs H Q E) : sp_some K vs H Q E := by
  obtain ⟨p, G, ts, n, w, r, xs, rfl, h1, h2, h3, q⟩ := h
  obtain ⟨v1, v2, rfl, r1, r2⟩ := two_of r
  obtain ⟨a, rfl, rfl⟩ := src_of r1
  obtain ⟨b, us, rfl, hb, rs⟩ := lst_of r2
  refine ⟨a, b, us, n, rfl, (w.src _ rfl).2, h1, SqL.of (hid_in _ _ hb), src_ne w hb, by rw [rs.length]; exact h2, by rw [rs.length]; exact h3, fun c F zs H' pm sb lz hc e s k => ?_⟩
  obtain ⟨Ft, p1, rF⟩ := rs.perm pm
  obtain ⟨zt, s1, rz⟩ := rF.sub sb
  rw [rs.length] at s
  exact q Ft zt p1 s1 (by rw [← rz.length]; exact lz) _ H' (keep_kp k) (w.of_keep k s) (.lst (hid_of (w.fresh hc) e) (rz.kp w.hd (keep_kp k)))
def namesW : WF := fun ts n k => ∃ m : Nat, ts = [.src, .int m] ∧ n ≤ 98000 ∧ m ≤ 20 ∧ ∀ xs : List Str, xs.length = m → xs.Nodup → (∀ z ∈ xs, drawn z) → k (.lst (xs.map T.str)) (n + 10 * m)
theorem mo_namesW : MonoF namesW := fun ts n k k' hk ⟨xs, e, h1, h2, q⟩ => ⟨xs, e, h1, h2, fun x a b c => hk _ _ (q x a b c)⟩
theorem names_imp (vs : List V) (H : Hp) (Q : VK) (E : XK) (h : spT K namesW vs H Q E) : sp_names K vs H Q E := by
  obtain ⟨p, G, ts, n, w, r, m, rfl, h1, h2, q⟩ := h
  obtain ⟨v1, v2, rfl, r1, r2⟩ := two_of r
  obtain ⟨a, rfl, rfl⟩ := src_of r1
  refine ⟨a, m, n, by rw [r2.toInt], (w.src _ rfl).2, h1, h2, fun c xs H' e1 e2 e3 hc e s k => ?_⟩
  exact q xs e1 e2 e3 _ H' (keep_kp k) (w.of_keep k s) (.lst (hid_of (w.fresh hc) e) (Rs.strs xs))
/-! ### plans, statements, forms -/
def turnsT (S : CT) : T := .dic (S.map fun s => (s.1, .lst (s.2.map T.str)))
def bringsT (B : NI) : T := .dic (B.map fun b => (b.1, .int b.2))
theorem rk_turns {Hh : Hp} : ∀ {T0 : TT'}, (∀ u ∈ T0, Hh u.2.1 = some (.lst (u.2.2.map V.str))) → Rk K p Hh ((ct T0).map fun s => (s.1, .lst (s.2.map T.str))) (T0.map tkv)
  | [], _ => .nil
  | (x, a, ws) :: r, h => .cons (.lst (h _ List.mem_cons_self) (Rs.strs ws)) (rk_turns fun u hu => h u (List.mem_cons_of_mem _ hu))
theorem rk_brings {Hh : Hp} : ∀ {B : NI}, Rk K p Hh (B.map fun b => (b.1, .int b.2)) (B.map kvi)
  | [] => .nil
  | (x, i) :: r => .cons (.int i) rk_brings
theorem of_turns {Hh : Hp} : ∀ {S : CT} {ws : List (Key × V)}, Rk K p Hh (S.map fun s => (s.1, T.lst (s.2.map T.str))) ws → ∃ T0 : TT', ws = T0.map tkv ∧ ct T0 = S ∧ ∀ u ∈ T0, Hh u.2.1 = some (.lst (u.2.2.map V.str))
  | [], _, .nil => ⟨[], rfl, rfl, fun u hu => by cases hu⟩
  | (x, zs) :: r, _, .cons h1 h2 => by
    obtain ⟨a, vs, rfl, ha, rs⟩ := lst_of h1
    obtain ⟨T0, rfl, e, hT⟩ := of_turns h2
    refine ⟨(x, a, zs) :: T0, rfl, by rw [← e]; rfl, fun u hu => ?_⟩
    rcases List.mem_cons.mp hu with rfl | hu
    · exact strs_of ha rs
    · exact hT u hu
theorem of_brings {Hh : Hp} : ∀ {B : NI} {ws : List (Key × V)}, Rk K p Hh (B.map fun b => (b.1, T.int b.2)) ws → ws = B.map kvi
  | [], _, .nil => rfl
  | (x, i) :: r, _, .cons h1 h2 => by
    rw [of_brings h2, h1.toInt]
    rfl
structure PlanT (xs : List Str) (S : CT) (B : NI) : Prop where
  tk : (S.map (·.1)).Sublist xs
  tv : ∀ t ∈ S, t.2.length ≤ 3 ∧ ∀ z ∈ t.2, z ∈ xs
  bk : (ks B).Nodup
  bx : ∀ b ∈ B, b.1 ∈ xs ∧ 1 ≤ b.2 ∧ b.2 ≤ 9
  bl : B.length ≤ 3
def planW : WF := fun ts n k => ∃ xs : List Str, ts = [.src, .lst (xs.map T.str)] ∧ n ≤ 90000 ∧ 1 ≤ xs.length ∧ xs.length ≤ 8 ∧ xs.Nodup ∧ ∀ S B, PlanT xs S B → k (.tup [turnsT S, bringsT B]) (n + 100)
theorem mo_planW : MonoF planW := fun ts n k k' hk ⟨xs, e, h1, h2, h3, h4, q⟩ => ⟨xs, e, h1, h2, h3, h4, fun S B a => hk _ _ (q S B a)⟩
theorem plan_imp (vs : List V) (H : Hp) (Q : VK) (E : XK) (h : spT K planW vs H Q E) : sp_plan K vs H Q E := by
  obtain ⟨p, G, ts, n, w, r, xs, rfl, h1, h2, h3, h4, q⟩ := h
  obtain ⟨v1, v2, rfl, r1, r2⟩ := two_of r
  obtain ⟨a, rfl, rfl⟩ := src_of r1
  obtain ⟨b, us, rfl, hb, rs⟩ := lst_of r2
  have hb := strs_of hb rs
  refine ⟨a, b, xs, n, rfl, (w.src _ rfl).2, h1, SqL.of (hid_in _ _ hb), src_ne w hb, h2, h3, h4, fun t d e T0 B H' ok ht hd he hT ne et eT eB s k => ?_⟩
  refine q (ct T0) B ⟨?_, fun u hu => ?_, ok.bk, ok.bx, ok.bl⟩ _ H' (keep_kp k) (w.of_keep k s) (.tup (SqT.of (hid_of (w.fresh ht) et)) (.cons (.dic (hid_of (w.fresh hd) eT.1) (rk_turns fun u hu => hid_of (w.fresh (hT u hu)) (eT.2 u hu))) (.cons (.dic (hid_of (w.fresh he) eB) rk_brings) .nil)))
  · have := ok.tk
    rw [← kg_ct] at this
    exact this
  · obtain ⟨v, hv, rfl⟩ := List.mem_map.mp hu
    exact ok.tv v hv
end
section
variable {K : PySem.W.Frag} {p : Option Addr} {C : Addr} {ta tb : TE} {Wa Wb : WE}
structure OkS (S : CT) (B : NI) : Prop where
  nd : (S.map (·.1)).Nodup
  nm : ∀ t ∈ S, nameB t.1 = true ∧ t.2.length ≤ 3 ∧ ∀ z ∈ t.2, nameB z = true
  sl : S.length ≤ 8
  bd : (ks B).Nodup
  bm : ∀ b ∈ B, nameB b.1 = true ∧ 1 ≤ b.2 ∧ b.2 ≤ 9
  bl : B.length ≤ 8
/-- Statement(turns, brings) -/
def wStm (C : Addr) (Wa Wb : WE) : WE := fun E n k => Wa E n fun t m => Wb E m fun u m' => ∃ S B, t = turnsT S ∧ u = bringsT B ∧ OkS S B ∧ k (.obj C []) m'
theorem Kp.mk {H H1 : Hp} {x : Addr} {dx C : Addr} (hx : H x = none) (hd : H dx = none) (k : ∀ c o, (upd (upd H dx (.own x)) x (.ins C dx [])) c = some o → c ≠ x → H1 c = some o) : Kp p H H1 := fun c o _ e => k c o (by rw [upd_ne (ne_of_none e hx), upd_ne (ne_of_none e hd)]; exact e) (ne_of_none e hx)
theorem et_stm (ha : ET K p ta Wa) (hb : ET K p tb Wb) : ET K p (tMake C (sp_sinit K C) [] L2.E0 (tCons ta (tCons tb tNil))) (wStm C Wa Wb) := ⟨fun G ad E n σ H Q w rl q => by
  refine ha.ev G ad E n σ H _ w rl (ha.mo _ _ _ _ (fun t m q v H1 k1 w1 r1 => ?_) q)
  refine hb.ev G ad E m σ H1 _ w1 (rl.kp w.hd k1) (hb.mo _ _ _ _ (fun u m' q v' H2 k2 w2 r2 => ?_) q)
  obtain ⟨S, B, rfl, rfl, ok, q2⟩ := q
  clear q
  have r1 := r1.kp w1.hd k2
  cases r1 with
  | dic h1 s1 =>
    cases r2 with
    | dic h2 s2 =>
      rename_i a wa b wb
      obtain ⟨T0, rfl, eS, hT⟩ := of_turns s1
      obtain rfl := of_brings s2
      subst eS
      have h1 := hid_in _ _ h1
      have h2 := hid_in _ _ h2
      dsimp only [tNil]
      have oT : Lw.okT T0 := ⟨by have := ok.nd; rwa [show (ct T0).map (·.1) = T0.map (·.1) from kg_ct T0] at this, fun t ht => (ok.nm _ (List.mem_map.mpr ⟨t, ht, rfl⟩)).1, by
        have := ok.sl
        rw [show (ct T0).length = T0.length from List.length_map _] at this
        omega⟩
      refine smake_k (.inl h1) (fun t ht => ⟨.inl (hid_in _ _ (hT t ht)), (ok.nm _ (List.mem_map.mpr ⟨t, ht, rfl⟩)).2⟩) oT (.inl h2) ⟨ok.bd, fun b hb => (ok.bm b hb).1, fun b hb => (ok.bm b hb).2, Nat.le_trans ok.bl (by decide)⟩ (by
        have := ok.sl
        rwa [show (ct T0).length = T0.length from List.length_map _] at this) ok.bl fun x H' S' B' hx sm st _ _ => ?_
      obtain ⟨dx, d, e, T1, ⟨hx', _⟩, _⟩ := st
      exact q2 _ H' ((k1.trans k2).trans (.of sm)) (w2.kp (.of sm) fun a z => by
        obtain ⟨g, s, c, e0, rest⟩ := (w2.src a z).2
        exact ⟨g, s, c, sm _ _ e0, rest⟩) (.obj (hid_of (w2.fresh hx) hx') .nil), fun E n k k' hk q => ha.mo _ _ _ _ (fun t m q => hb.mo _ _ _ _ (fun u m' ⟨S, B, e1, e2, ok, q⟩ => ⟨S, B, e1, e2, ok, hk _ _ q⟩) q) q⟩
/-- Form(parts, number) -/
def wForm (C : Addr) (Wa Wb : WE) : WE := fun E n k => Wa E n fun t m => Wb E m fun u m' => ∃ (B : NI) (i : Int), t = bringsT B ∧ u = .int i ∧ okW B ∧ k (.obj C []) m'
def wForm1 (C : Addr) (Wa : WE) : WE := fun E n k => Wa E n fun t m => ∃ (B : NI), t = bringsT B ∧ okW B ∧ k (.obj C []) m
theorem et_form2 (ha : ET K p ta Wa) (hb : ET K p tb Wb) : ET K p (tMake C (sp_finit K C) [] L2.E0 (tCons ta (tCons tb tNil))) (wForm C Wa Wb) := ⟨fun G ad E n σ H Q w rl q => by
  refine ha.ev G ad E n σ H _ w rl (ha.mo _ _ _ _ (fun t m q v H1 k1 w1 r1 => ?_) q)
  refine hb.ev G ad E m σ H1 _ w1 (rl.kp w.hd k1) (hb.mo _ _ _ _ (fun u m' q v' H2 k2 w2 r2 => ?_) q)
  obtain ⟨B, i, rfl, rfl, ok, q⟩ := q
  have r1 := r1.kp w1.hd k2
  cases r1 with
  | dic h1 s1 =>
    obtain rfl := of_brings s1
    obtain rfl := r2.toInt
    dsimp only [tNil]
    refine fmake_k (hid_in _ _ h1) ok fun x dx d1 A H' hx hd1 sm fx _ => ?_
    exact q _ H' ((k1.trans k2).trans (.of sm)) (w2.kp (.of sm) fun a z => by
      obtain ⟨g, s, c, e0, rest⟩ := (w2.src a z).2
      exact ⟨g, s, c, sm _ _ e0, rest⟩) (.obj (hid_of (w2.fresh hx) fx.1) .nil), fun E n k k' hk q => ha.mo _ _ _ _ (fun t m q => hb.mo _ _ _ _ (fun u m' ⟨B, i, e1, e2, ok, q⟩ => ⟨B, i, e1, e2, ok, hk _ _ q⟩) q) q⟩
theorem et_form1 (ha : ET K p ta Wa) : ET K p (tMake C (sp_finit K C) [.int 0] L2.E0 (tCons ta tNil)) (wForm1 C Wa) := ⟨fun G ad E n σ H Q w rl q => by
  refine ha.ev G ad E n σ H _ w rl (ha.mo _ _ _ _ (fun t m q v H1 k1 w1 r1 => ?_) q)
  obtain ⟨B, rfl, ok, q⟩ := q
  cases r1 with
  | dic h1 s1 =>
    obtain rfl := of_brings s1
    dsimp only [tNil]
    refine fmake_k (hid_in _ _ h1) ok fun x dx d1 A H' hx hd1 sm fx _ => ?_
    exact q _ H' (k1.trans (.of sm)) (w1.kp (.of sm) fun a z => by
      obtain ⟨g, s, c, e0, rest⟩ := (w1.src a z).2
      exact ⟨g, s, c, sm _ _ e0, rest⟩) (.obj (hid_of (w1.fresh hx) fx.1) .nil), fun E n k k' hk q => ha.mo _ _ _ _ (fun t m ⟨B, e1, ok, q⟩ => ⟨B, e1, ok, hk _ _ q⟩) q⟩
end
end Tr
namespace Lw
open PySem PySem.Spec PyProof.Rows L2 Sl
/-- a class that is made by its own __init__, which raises nothing -/
structure MkF (P : Program) (w : World) (K : PySem.W.Frag) (mg : Str → Option Value) (base : Heap) (x : Str) (C : Addr) (k : Nat) (dvs : List V) (sp : Sp) : Prop where
  g : mg x = some (.ref C)
  ex : ∃ (fI : Addr) (fdI : FuncData) (ps : List Str) (ds : List Value), Mk K C fI ∧ FnOk P w K mg base CX0 k fI fdI ps sp ∧ Binds K fdI ps ds ∧ Vals dvs ds
theorem pe_mk {X : Cx} {x : Str} {C : Addr} {k : Nat} {dvs : List V} {sp : Sp} {e : Expr} {es : List Expr} {t : TA} {p pos : Pos} (h : MkF X.prog X.w X.K X.mg X.base x C k dvs sp) (hr : Room (k + 1) X.A) (ha : PA X (e :: es) t) (hg : Gl X x := by rfl) (hdb : (x == ("__debug__" : Str)) = false := by decide)
    (he : starEach (e :: es) X.env = (false, eval e X.env) :: starEach es X.env := by rfl) (hpl : (backTo pos (starEach es X.env)).any (·.1) = false := by rfl) :
    PE X (.Call (.Name x p) (e :: es) [] pos) (tMake C sp dvs L2.E0 t) := by
  obtain ⟨fI, fdI, ps, ds, M, F, b, hd⟩ := h.ex
  exact pe_make M F hr hg h.g b hd pass0 ha hdb he hpl
end Lw
/-! ## Tr13 -/
set_option Elab.async false
set_option linter.all false
set_option maxRecDepth 100000
set_option maxHeartbeats 4000000
/-! Tr13: making that may raise, within try; a law's own first statement; own work. -/
namespace Tr
open PySem PySem.Spec PyProof.Rows L2 _root_.Sl Lw
section
variable {X : Cx} {CX : CXT} {k : Nat} {f C : Addr} {fd : FuncData} {ps : List Str} {sp : Sp} {E : L2.St → XK} {x : Str} {p pos : Pos} {e : Expr} {es : List Expr} {t : TA} {dvs : List V} {ds : List Value}
theorem run_makeS {pins : List (Addr × Obj)} {σ : L2.St} {H : Hp} {s : Shared} {Q : VK} {us : List Value} {vs : List V} (M : Mk X.K C f) (F : FnOk X.prog X.w X.K X.mg X.base CX k f fd ps sp) (hr : Room (k + 1) X.A) (hb : Binds X.K fd ps ds) (hd : Vals dvs ds)
    (hx : PassesAt CX X σ (E σ)) (I : Inv X pins σ H s) (r : Vals vs us)
    (h : ∀ x dx, H x = none → H dx = none → dx ≠ x → sp (.ref x :: (vs ++ dvs)) (upd (upd H dx (.own x)) x (.ins C dx [])) (fun v H2 => v = .non ∧ Q (.ref x) H2) (E σ)) :
    wpAny (model X.prog X.w) X.A (call (.ref C) us) (EP X pins σ Q) X.xe s := by
  have hq := h (s.heap.objs.size + 1) s.heap.objs.size (I.hok.fresh (Nat.le_succ _)) (I.hok.fresh (Nat.le_refl _)) (Nat.ne_of_lt (Nat.lt_succ_self _))
  have I2 := Inv.made (C := C) I
  have r2 : Vals (V.ref (s.heap.objs.size + 1) :: (vs ++ dvs)) (Value.ref (s.heap.objs.size + 1) :: (us ++ ds)) := .cons rfl (r.append hd)
  have hl : (Value.ref (s.heap.objs.size + 1) :: us ++ ds).length = ps.length := by
    have e := r2.length
    rw [F.len _ _ _ _ hq] at e
    exact e.symm
  refine wpAny_call (make_map (f := f) I.kIn M.makes M.init (beq_iff_eq.mp M.fn) (codeAny_mono (F.run _ X.stack _ _ ⟨Value.ref (s.heap.objs.size + 1) :: us, []⟩ (Value.ref (s.heap.objs.size + 1) :: (us ++ ds)) _ _ (E σ) (hr.make C us [])
    (I2.env0.make C us []) (hb _ (Value.ref (s.heap.objs.size + 1) :: us) I2.kIn hl) r2 hq) fun r s' hq' => ?_))
  cases r with
  | error e => exact hx pins _ _ e s' I2 hq'
  | ok fl =>
    cases fl with
    | ret u =>
      obtain ⟨v, H', I3, rv, ev, q3⟩ := I2.after hq'
      subst ev
      exact ⟨rv, ⟨V.ref (s.heap.objs.size + 1), H', I3, rfl, q3⟩⟩
    | next => exact False.elim hq'
    | brk => exact False.elim hq'
    | cont => exact False.elim hq'
def tMakeS (C : Addr) (sp : Sp) (W : WX) (t : TA) : TE := fun σ H Q => t σ H fun vs H1 => ∀ x dx, H1 x = none → H1 dx = none → dx ≠ x →
  sp (.ref x :: vs) (upd (upd H1 dx (.own x)) x (.ins C dx [])) (fun v H2 => v = .non ∧ Q (.ref x) H2) (L2.WE W σ)
theorem pe_makeS {W : WX} (M : Mk X.K C f) (F : FnOk X.prog X.w X.K X.mg X.base (L2.CX X.prog X.w) k f fd ps sp) (hr : Room (k + 1) X.A) (hg : Gl X x) (hm : X.mg x = some (.ref C)) (hb : Binds X.K fd ps []) (tk : Takes X W)
    (ha : PA X (e :: es) t) (hdb : (x == ("__debug__" : Str)) = false := by decide) (he : starEach (e :: es) X.env = (false, eval e X.env) :: starEach es X.env := by rfl) (hpl : (backTo pos (starEach es X.env)).any (·.1) = false := by rfl) :
    PE X (.Call (.Name x p) (e :: es) [] pos) (tMakeS C sp W t) := by
  refine ⟨fun pins s σ H Q I h => ?_⟩
  refine wpAny_Call_Name_kw (ld_glob I hg hm ?_ hdb)
  refine PySem.W.callWith_K (h₀ := X.base) I.ok.mod.kin M.kp (thn (ha.run pos pins s σ H _ I h) fun us s1 ⟨vs, H1, I1, r, q⟩ => ⟨I1.kIn, ?_⟩) he hpl
  exact run_makeS (dvs := []) (E := L2.WE W) M F hr hb .nil (passAt tk σ) I1 r (by simpa using q)
end
section
variable {K : PySem.W.Frag} {p : Option Addr} {te : TE} {We : WE} {ta : TA} {Wr : WA} {C : Addr} {W : WI} {Xw : WX} {i : Nat} {f : Str} {ts : TS} {Wb : WS}
def MonoI (W : WI) : Prop := ∀ ts n k k' x x', (∀ fs m, k fs m → k' fs m) → (∀ D fs m, x D fs m → x' D fs m) → W ts n k x → W ts n k' x'
theorem es_fldM (h : ET K p te We) : ES K p Xw (fun _ _ _ => True) (sFldT i C f We) := ⟨fun _ _ _ _ _ _ _ _ _ _ _ _ => trivial, fun E n D D' l q => h.mo _ _ _ _ (fun y m q => opt_mono (fun fs q => ite_mono (l.nx _ _) q) q) q⟩
theorem es_raiseM (h : ET K p te We) : ES K p Xw (fun _ _ _ => True) (sRaise C f We) := ⟨fun _ _ _ _ _ _ _ _ _ _ _ _ => trivial, fun E n D D' l q => h.mo _ _ _ _ (fun t m q => ite_mono (l.ex _ _ _ _) q) q⟩
theorem monoI {N : List Str} {L : Nat} (h : ES K p Xw ts Wb) : MonoI (fun ts n kn kx => ts.length + 1 = L ∧ Wb (startO N C ts) n { nx := fun E' m => ∃ fs, E'[0]? = some (.ow (.obj C fs)) ∧ kn fs m, rt := fun _ _ => False, ex := fun _ D fs m => kx D fs m }) :=
  fun ts n k k' x x' hk hx ⟨e, q⟩ => ⟨e, h.mo _ _ { nx := fun E' m => ∃ fs, E'[0]? = some (.ow (.obj C fs)) ∧ k fs m, rt := fun _ _ => False, ex := fun _ D fs m => x D fs m } _ ⟨fun E m ⟨fs, e, q⟩ => ⟨fs, e, hk _ _ q⟩, fun _ _ q => q, fun _ _ q => q, fun _ _ q => q, fun _ D fs m q => hx _ _ _ q⟩ q⟩
/-- C(args), within try -/
theorem makeS_of (mw : MonoI W) (ha : EA K p ta Wr) {G : Addr → Prop} {ad : Nat → Addr} {E : En} {n : Nat} {σ : L2.St} {H : Hp} {Q : VK} (w : Wld p G n H) (rl : RelE K p G ad E σ H)
    (q : Wr E n fun ts m => W ts m (fun fs m' => ∀ a H', Kp p H H' → Wld p G m' H' → R K p (hid G H') (.obj C fs) (.ref a) → Q (.ref a) H') (fun D fs m' => ∀ d H', Kp p H H' → Wld p G m' H' → H' d = some (.xd (toVx fs)) → Xw (.ref D) (some d) σ H')) :
    tMakeS C (spI K C W) Xw ta σ H Q := by
  refine ha.ev G ad E n σ H _ w rl (ha.mo _ _ _ _ (fun ts m q vs H1 k1 w1 rs x dx hx hdx ne => ?_) q)
  have hx2 : (upd H1 dx (.own x)) x = none := by rw [upd_ne (Ne.symm ne)]; exact hx
  have w2 : Wld p G m (upd H1 dx (.own x)) := w1.new hdx
  have w3 : Wld p G m (upd (upd H1 dx (.own x)) x (.ins C dx [])) := w2.new hx2
  have rs2 : Rs K p (hid G (upd H1 dx (.own x))) ts vs := rs.kp w1.hd (Kp.new hdx)
  have kk : ∀ {H' : Hp}, Kp p (del (upd (upd H1 dx (.own x)) x (.ins C dx [])) x) H' → Kp p H H' := fun {H'} k b o nb hb => by
    have h1 := k1 b o nb hb
    have nx : b ≠ x := fun z => by rw [z, hx] at h1; cases h1
    have nd : b ≠ dx := fun z => by rw [z, hdx] at h1; cases h1
    refine k b o nb ?_
    rw [del_ne nx, upd_ne nx, upd_ne nd]
    exact h1
  refine ⟨p, G, ts, m, x, dx, vs, rfl, upd_same, w1.fresh hx, w3, rs2.newA w2 hx2, mw _ _ _ _ _ _ (fun fs m' q H' dx' ws k hx' rf wf => ⟨rfl, ?_⟩) (fun D fs m' q d H' k wf hd => ?_) q⟩
  · exact q x H' (kk k) wf (.obj (hid_of (w1.fresh hx) hx') (rf.mono (hid_anti fun a z => .inl z)))
  · exact q d H' (kk k) wf hd
end
/-! ### a law: its first statement makes the source -/
def sp_law (K : PySem.W.Frag) : Sp := fun vs H Q _ => ∃ (a : Addr) (ns : List Int), vs = [.ref a] ∧ SqL K H a (ns.map V.int) ∧ ns.length ≤ 63 ∧ ∀ H', Q (.bl true) H'
def startL (N : List Str) : En := .no :: .sh .src :: List.replicate (N.length - 2) .no
section
variable {P : Program} {w : World} {K : PySem.W.Frag} {mg : Str → Option Value} {base : Heap} {x qual : Str} {params : Arguments} {body : List Stmt} {scope : Scope} {dvs : List V} {kws : List (Str × V)} {f : Addr} {fd : FuncData}
theorem okL {x0 x1 : Str} {N : List Str} {k : Nat} (F : FunD K x qual params body scope dvs kws f fd) (S : FnScope (x0 :: x1 :: N) [x0] scope)
    (hbody : ∀ (cdv : Value) (A : Around) (outer : List Env) (s : Shared) (H : Hp) (E : XK), Room k (A.deeper (envOfC qual scope s.heap.objs.size f cdv)) →
      ∃ t, PSs (cxOf CX0 P w K mg base (x0 :: x1 :: N) qual scope f cdv A outer s H E).nox body (tSeq (tAsg (tCall (sp_source K) [] L2.E0 (tCons (tVar 0) tNil)) (gName 1)) t) ∧ ∀ p : Option Addr, ∃ (Wb : WS) (Xw : WX), ES K p Xw t Wb ∧
        Wb (startL (x0 :: x1 :: N)) 0 { nx := fun _ _ => False, rt := fun t _ => t = .bl true }) : FnOk P w K mg base CX0 (k + 1) f fd [x0] (sp_law K) := by
  refine F.ok S (fun vs H Q E h => ?_) (fun cdv A outer s H vs Q E hr h => ?_)
  · obtain ⟨a, ns, rfl, _⟩ := h
    rfl
  · obtain ⟨a, ns, rfl, hS, hl, q⟩ := h
    obtain ⟨t, hd, he⟩ := hbody cdv A outer s H E hr
    refine ⟨_, hd.nox, ?_⟩
    refine ⟨_, rfl, a, ns, rfl, hS, hl, fun p H' hp sp kp => ?_⟩
    obtain ⟨Wb, Xw, es, hw⟩ := he (some p)
    have st : (L2.start (x0 :: x1 :: N) [V.ref a]).set 1 (some (V.ref p)) = some (V.ref a) :: some (V.ref p) :: List.replicate N.length none := by
      unfold L2.start
      simp [List.replicate_succ]
    have no : ∀ (i : Nat) (t : T), (startL (x0 :: x1 :: N))[i]? ≠ some (.ow t) := fun i t e => by
      unfold startL at e
      match i, e with
      | 0, e => cases e
      | 1, e => cases e
      | i + 2, e =>
        have e : (List.replicate N.length Sl.no)[i]? = some (.ow t) := e
        rw [List.getElem?_replicate] at e
        split at e <;> cases e
    have eg : ∀ a, GG (fun b => b = p) (fun _ => 0) (startL (x0 :: x1 :: N)) a → a = p := fun a z => z.elim id fun ⟨i, t, e, _⟩ => absurd e (no i t)
    obtain ⟨o, ho⟩ := sp.there
    have rel : RelS K (some p) (fun b => b = p) H' [] (startL (x0 :: x1 :: N)) ((L2.start (x0 :: x1 :: N) [V.ref a]).set 1 (some (V.ref p))) 0 H' := by
      rw [st]
      refine ⟨fun _ => 0, .refl _ _, ⟨fun a z => ⟨o, eg a z ▸ ho⟩, fun b e => ⟨.inl (Option.some.inj e).symm, by cases e; exact sp⟩⟩, ⟨?_, fun i t e => ?_, fun i t e => absurd e (no i t)⟩, fun a z => ⟨o, z ▸ ho⟩, fun b e => (Option.some.inj e).symm, fun i j t u e => absurd e (no i t), fun i t e => absurd e (no i t), fun q hq => by cases hq⟩
      · unfold startL
        simp
      · unfold startL at e
        match i, e with
        | 0, e => cases e
        | 1, e => cases e; exact ⟨_, rfl, .src rfl⟩
        | i + 2, e =>
          have e : (List.replicate N.length Sl.no)[i]? = some (.sh t) := e
          rw [List.getElem?_replicate] at e
          split at e <;> cases e
    exact es.ev (fun b => b = p) H' [] _ 0 _ H' _ { nx := fun _ _ => False, rt := fun t _ => t = .bl true } rel ⟨fun E m σ H q _ => q.elim, fun t m v H q _ _ r => by
      subst q
      obtain rfl := r.toBl
      exact q H, fun _ _ _ _ q => q.elim, fun _ _ _ _ q => q.elim, fun _ _ _ _ _ _ _ q => q.elim⟩ hw
end
end Tr
/-! ## LwX -/
set_option Elab.async false
set_option linter.all false
set_option maxRecDepth 100000
set_option maxHeartbeats 300000
set_option pp.deepTerms false
set_option pp.deepTerms.threshold 3
set_option pp.maxSteps 600
namespace Lw
open PySem PySem.Spec PyProof.Rows L2 _root_.Sl Tr
section
variable {P : Program} {w : World} {K : PySem.W.Frag} {mg : Str → Option Value} {base : Heap} {f : Addr} {fd : FuncData} {Cs : List Addr} {CB CF CS CT : Addr}
structure TrigF (P : Program) (w : World) (K : PySem.W.Frag) (mg : Str → Option Value) (base : Heap) (CT : Addr) (W : WI) (L : WF) : Prop where
  g : mg "Trigger" = some (.ref CT)
  cl : Cls K CT
  mW : MonoI W
  mL : MonoF L
  ex : ∃ (fI : Addr) (fdI : FuncData), Mk K CT fI ∧ FnOk P w K mg base (L2.CX P w) 7 fI fdI ["self", "name", "olds", "news", "tests", "deeds"] (spI K CT W) ∧ Binds K fdI ["self", "name", "olds", "news", "tests", "deeds"] []
  lab : ∃ (p g : Addr) (fdG : FuncData), PropOf K CT "label" p g ∧ FnOk P w K mg base CX0 1 g fdG ["self"] (spT K L) ∧ Binds K fdG ["self"] []
def trW (CB CT : Addr) (W : WI) (L : WF) : WF := fun ts n k => ∃ a b c d e : T, ts = [.lst [a, b, c, d, e]] ∧ W [a, b, c, d, e] n (fun fs m => L [.obj CT fs] m fun t m' => k (.tup [.str "told", t]) m')
  (fun D xs m => D = CB ∧ ∃ s : Str, xs = [((("place" : Str), T.str s) : Str × T)] ∧ k (.tup [.str "bad", .str s]) m)
variable {W : WI} {L : WF}
theorem mo_trW (mW : MonoI W) (mL : MonoF L) : MonoF (trW CB CT W L) := fun ts n k k' hk ⟨a, b, c, d, e, e1, q⟩ => ⟨a, b, c, d, e, e1, mW _ _ _ _ _ _ (fun fs m q => mL _ _ _ _ (fun t m' q => hk _ _ q) q) (fun D xs m ⟨e2, s, e3, q⟩ => ⟨e2, s, e3, hk _ _ q⟩) q⟩
theorem seq_asg {te : Ends → TE} {g : TG} {t : TS} {D : Ends} {σ : L2.St} {H : Hp} (h : te { D with nx := t D } σ H fun x H1 => g x σ H1 (t D)) : tSeq (fun D σ H => tAsg (te D) g D σ H) t D σ H := h
theorem tup2_of {a : TE} {s : Str} {σ : L2.St} {H : Hp} {Q : VK} (h : a σ H fun x H1 => 2 ≤ sizeLine ∧ ∀ p, H1 p = none → Q (.ref p) (upd H1 p (.tup [.str s, x]))) : tTup (tCons (tC (.str s)) (tCons a tNil)) σ H Q := h
theorem prop_of {C : Addr} {sp : Sp} {dvs : List V} {E : XK} {ta : TE} {σ : L2.St} {H : Hp} {Q : VK} (h : ta σ H fun x H1 => ∃ a dx fs, x = .ref a ∧ H1 a = some (.ins C dx fs) ∧ sp (.ref a :: dvs) H1 Q E) : tProp C sp dvs E ta σ H Q := h
theorem ot_l_tried (F : FnP K "_law_tried" s_l_tried [] f fd) (O : ErrF P w K mg base "BadTrigger" "place" CB) (TF : TrigF P w K mg base CT W L) (hex : PySem.W.exmOne K (.ref CB) (.ref CB) = some true) : FnOk P w K mg base CX0 9 f fd ["_law_parts"] (spT K (trW CB CT W L)) := by
  refine F.ok sc_l_tried (fun vs H Q E h => ?_) (fun cdv A outer s H vs Q E hr h => ?_)
  · obtain ⟨p, G, ts, n, _, r, a, b, c, d, e, rfl, _⟩ := h
    rw [r.length]
    rfl
  · obtain ⟨p, G, ts, n, wl, r, a, b, c, d, e, rfl, h⟩ := h
    obtain ⟨fI, fdI, M, FI, bI⟩ := TF.ex
    obtain ⟨pg, gg, fdG, PO, FL, bL⟩ := TF.lab
    have nd := sc_l_tried.nd
    have xf : XfC K CB := ⟨O.R.ga, O.R.gg, O.T.exC, O.R.hd⟩
    refine ⟨_, pss_cons (ps_set (i := 1) nd rfl (.inl rfl) (pe_tup (pa_cons pe_str (pa_cons pe_str pa_nil))))
      (pss_cons (ps_try_as (i := 2) rfl rfl nd rfl rfl ⟨rfl, by decide, .inl O.g⟩ takes0
          (fun W pn xe tk _ => pss_one (ps_set (i := 1) nd rfl (.inl rfl) (pe_tup (pa_cons pe_str (pa_cons (pe_prop (pe_makeS (t := (tCons (tOp (rIxL K) (tVar 0) (tC (.int 0))) (tCons (tOp (rIxL K) (tVar 0) (tC (.int 1))) (tCons (tOp (rIxL K) (tVar 0) (tC (.int 2))) (tCons (tOp (rIxL K) (tVar 0) (tC (.int 3))) (tCons (tOp (rIxL K) (tVar 0) (tC (.int 4))) tNil)))))) M FI hr (by rfl) TF.g bI tk
            (pa_cons (pe_ix ix_list (pv 0) pe_int (fun _ _ => rfl)) (pa_cons (pe_ix ix_list (pv 0) pe_int (fun _ _ => rfl)) (pa_cons (pe_ix ix_list (pv 0) pe_int (fun _ _ => rfl)) (pa_cons (pe_ix ix_list (pv 0) pe_int (fun _ _ => rfl)) (pa_cons (pe_ix ix_list (pv 0) pe_int (fun _ _ => rfl)) pa_nil))))))
            TF.cl PO FL (hr.mono (show 2 ≤ 8 by decide)) bL .nil pass0 rfl) pa_nil)))))
          (fun a oe cls d pn hz hf => pss_one (ps_set (i := 1) nd rfl (.inl rfl) (pe_tup (pa_cons pe_str (pa_cons (pe_xf xf O.nf hz hf (pv 2)) pa_nil))))))
      (pss_one (ps_ret (pv 1)))), ?_⟩
    cases r with
    | cons r1 rr =>
      cases rr
      rename_i v
      refine asg_of ⟨(by show 2 ≤ sizeLine; decide), fun p0 hp0 => ?_⟩
      have w1 : Wld p G n (upd H p0 (.tup [.str "none", .str ""])) := wl.new hp0
      have k0 : Kp p H (upd H p0 (.tup [.str "none", .str ""])) := .new hp0
      have rl : RelE K p G (fun _ => 0) [.sh (.lst [a, b, c, d, e]), .no, .no] [some v, some (.ref p0), none] (upd H p0 (.tup [.str "none", .str ""])) := by
        refine ⟨rfl, fun i t e => ?_, fun i t e => ?_⟩
        · match i, e with
          | 0, e => cases e; exact ⟨v, rfl, r1.kp wl.hd k0⟩
          | 1, e => cases e
          | 2, e => cases e
        · match i, e with
          | 0, e => cases e
          | 1, e => cases e
          | 2, e => cases e
      have ea : EA K p (tCons (tOp (rIxL K) (tVar 0) (tC (.int 0))) (tCons (tOp (rIxL K) (tVar 0) (tC (.int 1))) (tCons (tOp (rIxL K) (tVar 0) (tC (.int 2))) (tCons (tOp (rIxL K) (tVar 0) (tC (.int 3))) (tCons (tOp (rIxL K) (tVar 0) (tC (.int 4))) tNil))))) (aCons (w2 fIxL (wVar 0) (wC (.int 0))) (aCons (w2 fIxL (wVar 0) (wC (.int 1))) (aCons (w2 fIxL (wVar 0) (wC (.int 2))) (aCons (w2 fIxL (wVar 0) (wC (.int 3))) (aCons (w2 fIxL (wVar 0) (wC (.int 4))) aNil))))) := (ea_cons (et_op o_ixL (et_var 0).x (et_int 0).x) (ea_cons (et_op o_ixL (et_var 0).x (et_int 1).x) (ea_cons (et_op o_ixL (et_var 0).x (et_int 2).x) (ea_cons (et_op o_ixL (et_var 0).x (et_int 3).x) (ea_cons (et_op o_ixL (et_var 0).x (et_int 4).x) ea_nil)))))
      refine seq_asg (tup2_of (prop_of ?_))
      refine makeS_of (C := CT) (W := W) TF.mW ea w1 rl ?_
      show W [a, b, c, d, e] n _ _
      refine TF.mW _ _ _ _ _ _ (fun fs m q x H' k1 w2 r2 => ?_) (fun D xs m q dd H' k1 w2 hx => ?_) h
      · cases r2 with
        | obj hx rf =>
          rename_i dx ws
          refine ⟨x, dx, ws, rfl, hid_in _ _ hx, p, G, _, m, w2, .cons (.obj hx rf) .nil, TF.mL _ _ _ _ (fun t m' q v2 H2 k2 w3 r3 => ?_) q⟩
          refine ⟨(by show 2 ≤ sizeLine; decide), fun q0 hq0 => ?_⟩
          exact ⟨_, rfl, q _ _ (((k0.trans k1).trans k2).trans (.new hq0)) (w3.new hq0) (.newT w3 hq0 (.cons (.str _) (.cons r3 .nil)))⟩
      · obtain ⟨rfl, s, rfl, q⟩ := q
        refine ⟨true, hex, fun _ a ha => ?_, fun z => nomatch z⟩
        refine ⟨_, rfl, rfl, rfl, dd, _, _, rfl, hx, rfl, (by show 2 ≤ sizeLine; decide), fun q0 hq0 => ?_⟩
        exact ⟨_, rfl, q _ _ ((k0.trans k1).trans (.new hq0)) (w2.new hq0) (.newT w2 hq0 (.cons (.str _) (.cons (.str _) .nil)))⟩
end
end Lw
/-! ## GenB -/
set_option Elab.async false
set_option linter.all false
set_option maxRecDepth 100000
set_option maxHeartbeats 4000000
namespace Lw
open PySem PySem.Spec PyProof.Rows L2 _root_.Sl Tr
section
variable {P : Program} {w : World} {K : PySem.W.Frag} {mg : Str → Option Value} {base : Heap} {f : Addr} {fd : FuncData}
abbrev N_is_name : List Str := ["thing", "letter"]
def wb_is_name (Cs : List Addr) : WS := (sSeq (sIf (bOr (bNot (wVal (wIsi Cs [(.type "str")] (wVar 0)))) (bNot (wVal (wChain (fI fun i j => .bl (decide (i ≤ j))) (fI fun i j => .bl (decide (i ≤ j))) (wC (.int 1)) (wCl fLen (aCons (wVar 0) aNil)) (wC (.int 8)))))) (sRet (wC (.bl false))) sNil) (sRet (wCl fAll (aCons (wLc (iStrT (wVar 0)) (wgName 1) bYes (w2 (fInS false) (wVar 1) (wC (.str "abcdefghijklmnopqrstuvwxyz"))) [1]) aNil))))
def wr_is_name (Cs : List Addr) : WF := fun ts n k => ts.length = 1 ∧ (wb_is_name Cs) (startE N_is_name ts) n { nx := fun _ m => k .non m, rt := k }
theorem mo_wr_is_name {Cs : List Addr} : MonoF (wr_is_name Cs) := monoF (K := ([] : PySem.W.Frag)) (p := none) (N := N_is_name) (es_seq (es_if (eb_or (eb_not (eb_val (et_isiM (us := [(.type "str")]) (et_var 0).x))) (eb_not (eb_test (et_chain o_le o_le (et_int 1).x (et_cl c_len (eax_cons (et_var 0).x eax_nil)).x (et_int 8).x)))) (es_ret (et_bl false)) es_nil) (es_ret (et_cl c_all (eax_cons (en_lc (ei_str (et_var 0)) (eg_name 1) eb_yes (et_op o_inS (et_var 1).x (et_str "abcdefghijklmnopqrstuvwxyz").x)).t.x eax_nil))))
set_option maxHeartbeats 4000000 in
theorem ot_is_name {t_LETTERS : Tok} {t_MOST_LETTERS : Tok} {Cs : List Addr} (F : FnP K "is_name" s_is_name [] f fd) (k_LETTERS : mg "LETTERS" = some (.str "abcdefghijklmnopqrstuvwxyz" t_LETTERS)) (k_MOST_LETTERS : mg "MOST_LETTERS" = some (.int 8 t_MOST_LETTERS)) (m_all : mg "all" = none) (m_isinstance : mg "isinstance" = none) (m_len : mg "len" = none) (m_str : mg "str" = none) (OT : OwnTy K Cs) : FnOk P w K mg base CX0 1 f fd ["thing"] (spT K (wr_is_name Cs)) := by
  refine Tr.okT F sc_is_name (fun ts n k h => h.1) fun cdv A outer s H E hr => ?_
  have nd := sc_is_name.nd
  exact ⟨_, (pss_cons (ps_if (PW.pt (pw_or (pt_not (pt_val (pe_callB call_isi (by rfl) m_isinstance PyProof.Rows.Boot.«isinstance» (pa_cons (pv 0) (pa_cons (pe_bltn (v := .ty "str") (by rfl) m_str PyProof.Rows.Boot.«str» rfl) pa_nil))))) (pw_or1 (pt_not (pt_chain op_le op_le pe_int (pe_callB (r := (Tr.rLen K)) call_lenT (by rfl) m_len boot_len (pa_cons (pv 0) pa_nil)) (pe_glob (v := .int 8) (by rfl) k_MOST_LETTERS ⟨_, rfl⟩)))))) (pss_one (ps_ret pe_bl)) pss_nil) (pss_one (ps_ret (pe_callB (r := (rAll K)) (cr_all rfl) (by rfl) m_all (by decide +kernel) (pa_cons (pe_lc (own := [("letter", 1)]) (g := (gName 1)) (tt := tYes) (te := (tOp rInS (tVar 1) (tC (.str "abcdefghijklmnopqrstuvwxyz")))) rfl nd (pi_str (pv 0)) (blkOk_by (N := N_is_name) (sc := defScope s_is_name) (by decide +kernel)) (fun _ _ _ _ _ => (pg_name (i := 1) nd rfl (by first | exact Or.inl rfl | exact Or.inr rfl))) (fun _ _ _ _ _ => pts_nil) (fun _ _ _ _ _ => (pe_cmpR op_inS (pv 1) (pe_glob (v := .str "abcdefghijklmnopqrstuvwxyz") (by rfl) k_LETTERS ⟨_, rfl⟩) (by rfl)))) pa_nil))))),
    fun p => ⟨(wb_is_name Cs), fun _ _ _ _ => False, (es_seq (es_if (eb_or (eb_not (eb_val (et_isi (u := (.type "str")) OT (by first | rfl | exact decide_eq_true (by assumption)) (et_var 0).x))) (eb_not (eb_test (et_chain o_le o_le (et_int 1).x (et_cl c_len (eax_cons (et_var 0).x eax_nil)).x (et_int 8).x)))) (es_ret (et_bl false)) es_nil) (es_ret (et_cl c_all (eax_cons (en_lc (ei_str (et_var 0)) (eg_name 1) eb_yes (et_op o_inS (et_var 1).x (et_str "abcdefghijklmnopqrstuvwxyz").x)).t.x eax_nil)))), fun ts n k h => h.2⟩⟩
abbrev N_is_integer : List Str := ["thing"]
def wb_is_integer (Cs : List Addr) : WS := (sRet (wAndV (wIsi Cs [(.type "int")] (wVar 0)) (wNotV (wIsi Cs [(.type "bool")] (wVar 0)))))
def wr_is_integer (Cs : List Addr) : WF := fun ts n k => ts.length = 1 ∧ (wb_is_integer Cs) (startE N_is_integer ts) n { nx := fun _ m => k .non m, rt := k }
theorem mo_wr_is_integer {Cs : List Addr} : MonoF (wr_is_integer Cs) := monoF (K := ([] : PySem.W.Frag)) (p := none) (N := N_is_integer) (es_ret (et_andV (et_isiM (us := [(.type "int")]) (et_var 0).x) (et_notV (et_isiM (us := [(.type "bool")]) (et_var 0).x))))
set_option maxHeartbeats 4000000 in
theorem ot_is_integer {Cs : List Addr} (F : FnP K "is_integer" s_is_integer [] f fd) (m_bool : mg "bool" = none) (m_int : mg "int" = none) (m_isinstance : mg "isinstance" = none) (OT : OwnTy K Cs) : FnOk P w K mg base CX0 1 f fd ["thing"] (spT K (wr_is_integer Cs)) := by
  refine Tr.okT F sc_is_integer (fun ts n k h => h.1) fun cdv A outer s H E hr => ?_
  have nd := sc_is_integer.nd
  exact ⟨_, (pss_one (ps_ret (pe_and (pe_callB call_isi (by rfl) m_isinstance PyProof.Rows.Boot.«isinstance» (pa_cons (pv 0) (pa_cons (pe_bltn (v := .ty "int") (by rfl) m_int (by decide +kernel) rfl) pa_nil))) (pe_one (pe_not (pe_callB call_isi (by rfl) m_isinstance PyProof.Rows.Boot.«isinstance» (pa_cons (pv 0) (pa_cons (pe_bltn (v := .ty "bool") (by rfl) m_bool (by decide +kernel) rfl) pa_nil)))))))),
    fun p => ⟨(wb_is_integer Cs), fun _ _ _ _ => False, (es_ret (et_andV (et_isi (u := (.type "int")) OT (by first | rfl | exact decide_eq_true (by assumption)) (et_var 0).x) (et_notV (et_isi (u := (.type "bool")) OT (by first | rfl | exact decide_eq_true (by assumption)) (et_var 0).x)))), fun ts n k h => h.2⟩⟩
abbrev N_is_list : List Str := ["thing"]
def wb_is_list (Cs : List Addr) : WS := (sRet (wIsi Cs [(.type "list"), (.type "tuple")] (wVar 0)))
def wr_is_list (Cs : List Addr) : WF := fun ts n k => ts.length = 1 ∧ (wb_is_list Cs) (startE N_is_list ts) n { nx := fun _ m => k .non m, rt := k }
theorem mo_wr_is_list {Cs : List Addr} : MonoF (wr_is_list Cs) := monoF (K := ([] : PySem.W.Frag)) (p := none) (N := N_is_list) (es_ret (et_isiM (us := [(.type "list"), (.type "tuple")]) (et_var 0).x))
set_option maxHeartbeats 4000000 in
theorem ot_is_list {Cs : List Addr} (F : FnP K "is_list" s_is_list [] f fd) (m_isinstance : mg "isinstance" = none) (m_list : mg "list" = none) (m_tuple : mg "tuple" = none) (OT : OwnTy K Cs) : FnOk P w K mg base CX0 1 f fd ["thing"] (spT K (wr_is_list Cs)) := by
  refine Tr.okT F sc_is_list (fun ts n k h => h.1) fun cdv A outer s H E hr => ?_
  have nd := sc_is_list.nd
  exact ⟨_, (pss_one (ps_ret (pe_callB call_isiT (by rfl) m_isinstance PyProof.Rows.Boot.«isinstance» (pa_cons (pv 0) (pa_cons (pe_tup (pa_cons (pe_bltn (v := .ty "list") (by rfl) m_list PyProof.Rows.Boot.«list» rfl) (pa_cons (pe_bltn (v := .ty "tuple") (by rfl) m_tuple PyProof.Rows.Boot.«tuple» rfl) pa_nil))) pa_nil))))),
    fun p => ⟨(wb_is_list Cs), fun _ _ _ _ => False, (es_ret (et_isi2 (u := (.type "list")) (u' := (.type "tuple")) OT (by first | rfl | exact decide_eq_true (by assumption)) (by first | rfl | exact decide_eq_true (by assumption)) (et_var 0).x)), fun ts n k h => h.2⟩⟩
abbrev N_are_different : List Str := ["texts"]
def wb_are_different : WS := (sRet (w2 fEq (wLenSet (wVar 0)) (wCl fLen (aCons (wVar 0) aNil))))
def wr_are_different : WF := fun ts n k => ts.length = 1 ∧ wb_are_different (startE N_are_different ts) n { nx := fun _ m => k .non m, rt := k }
theorem mo_wr_are_different : MonoF wr_are_different := monoF (K := ([] : PySem.W.Frag)) (p := none) (N := N_are_different) (es_ret (et_op o_eq (et_lenSetM (et_var 0).x).x (et_cl c_len (eax_cons (et_var 0).x eax_nil)).x))
set_option maxHeartbeats 4000000 in
theorem ot_are_different (F : FnP K "are_different" s_are_different [] f fd) (m_len : mg "len" = none) (m_set : mg "set" = none) : FnOk P w K mg base CX0 1 f fd ["texts"] (spT K wr_are_different) := by
  refine Tr.okT F sc_are_different (fun ts n k h => h.1) fun cdv A outer s H E hr => ?_
  have nd := sc_are_different.nd
  exact ⟨_, (pss_one (ps_ret (pe_cmpR (op_eqD hr.units) (pe_callB (r := rLenTx P w) (cr_lenTx) (by rfl) m_len boot_len (pa_cons (pe_callTy (r := rSetTt K P w) (cr_setTt rfl) (by rfl) m_set (by decide +kernel) (pa_cons (pv 0) pa_nil)) pa_nil)) (pe_callB (r := (Tr.rLen K)) call_lenT (by rfl) m_len boot_len (pa_cons (pv 0) pa_nil)) (nomark _)))),
    fun p => ⟨wb_are_different, fun _ _ _ _ => False, (es_ret (et_op o_eq (et_lenSet (P := P) (w0 := w) (et_var 0).x).x (et_cl c_len (eax_cons (et_var 0).x eax_nil)).x)), fun ts n k h => h.2⟩⟩
abbrev N_is_names : List Str := ["thing", "least", "most", "name"]
def wb_is_names (Cs : List Addr) : WS := (sSeq (sIf (bOr (bNot (wVal (wCal (wr_is_list Cs) (aCons (wVar 0) aNil) []))) (wVal (w2 (fI fun i j => .bl (decide (i < j))) (wCl fLen (aCons (wVar 0) aNil)) (wVar 1)))) (sRet (wC (.bl false))) sNil) (sSeq (sIf (bAnd (wVal (w2 fNotN (wVar 2) (wC .non))) (wVal (w2 (fI fun i j => .bl (decide (j < i))) (wCl fLen (aCons (wVar 0) aNil)) (wVar 2)))) (sRet (wC (.bl false))) sNil) (sRet (wAndV (wCl fAll (aCons (wLc (iSeqT (wVar 0)) (wgName 3) bYes (wCal (wr_is_name Cs) (aCons (wVar 3) aNil) []) [3]) aNil)) (wCal wr_are_different (aCons (wVar 0) aNil) [])))))
def wr_is_names (Cs : List Addr) : WF := fun ts n k => ts.length = 3 ∧ (wb_is_names Cs) (startE N_is_names ts) n { nx := fun _ m => k .non m, rt := k }
theorem mo_wr_is_names {Cs : List Addr} : MonoF (wr_is_names Cs) := monoF (K := ([] : PySem.W.Frag)) (p := none) (N := N_is_names) (es_seq (es_if (eb_or (eb_not (eb_val (et_cal mo_wr_is_list (fun _ => .nil) (ea_cons (et_var 0) ea_nil)))) (eb_test (et_op o_lt (et_cl c_len (eax_cons (et_var 0).x eax_nil)).x (et_var 1).x))) (es_ret (et_bl false)) es_nil) (es_seq (es_if (eb_and (eb_test (et_op o_notN (et_var 2).x et_non.x)) (eb_test (et_op o_gt (et_cl c_len (eax_cons (et_var 0).x eax_nil)).x (et_var 2).x))) (es_ret (et_bl false)) es_nil) (es_ret (et_andV (et_cl c_all (eax_cons (en_lc (eis_seq (et_var 0)).ei (eg_name 3) eb_yes (et_cal mo_wr_is_name (fun _ => .nil) (ea_cons (et_var 3) ea_nil))).t.x eax_nil)) (et_cal mo_wr_are_different (fun _ => .nil) (ea_cons (et_var 0) ea_nil))))))
set_option maxHeartbeats 4000000 in
theorem ot_is_names {Cs : List Addr} (F : FnP K "is_names" s_is_names [] f fd) (c_is_list : Cal P w K mg base 1 "is_list" [] (spT K (wr_is_list Cs))) (c_is_name : Cal P w K mg base 1 "is_name" [] (spT K (wr_is_name Cs))) (c_are_different : Cal P w K mg base 1 "are_different" [] (spT K wr_are_different)) (m_all : mg "all" = none) (m_len : mg "len" = none) : FnOk P w K mg base CX0 2 f fd ["thing", "least", "most"] (spT K (wr_is_names Cs)) := by
  refine Tr.okT F sc_is_names (fun ts n k h => h.1) fun cdv A outer s H E hr => ?_
  have nd := sc_is_names.nd
  exact ⟨_, (pss_cons (ps_if (PW.pt (pw_or (pt_not (pt_val (pe_cal c_is_list (hr.mono (show 1 ≤ 1 by decide)) (pa_cons (pv 0) pa_nil)))) (pw_or1 (pt_cmpR op_lt (pe_callB (r := (Tr.rLen K)) call_lenT (by rfl) m_len boot_len (pa_cons (pv 0) pa_nil)) (pv 1) (nomark _))))) (pss_one (ps_ret pe_bl)) pss_nil) (pss_cons (ps_if (PW.pt (pw_and (pt_cmpR op_notNT (pv 2) pe_non (nomark _)) (pw_and1 (pt_cmpR op_gt (pe_callB (r := (Tr.rLen K)) call_lenT (by rfl) m_len boot_len (pa_cons (pv 0) pa_nil)) (pv 2) (nomark _))))) (pss_one (ps_ret pe_bl)) pss_nil) (pss_one (ps_ret (pe_and (pe_callB (r := (rAll K)) (cr_all rfl) (by rfl) m_all (by decide +kernel) (pa_cons (pe_lc (own := [("name", 3)]) (g := (gName 3)) (tt := tYes) (te := (tCall (spT K (wr_is_name Cs)) [] L2.E0 (tCons (tVar 3) tNil))) rfl nd (pi_seq (pv 0)) (blkOk_by (N := N_is_names) (sc := defScope s_is_names) (by decide +kernel)) (fun _ _ _ _ _ => (pg_name (i := 3) nd rfl (by first | exact Or.inl rfl | exact Or.inr rfl))) (fun _ _ _ _ _ => pts_nil) (fun _ _ _ _ _ => (pe_cal c_is_name (hr.mono (show 1 ≤ 1 by decide)) (pa_cons (pv 3) pa_nil)))) pa_nil)) (pe_one (pe_cal c_are_different (hr.mono (show 1 ≤ 1 by decide)) (pa_cons (pv 0) pa_nil)))))))),
    fun p => ⟨(wb_is_names Cs), fun _ _ _ _ => False, (es_seq (es_if (eb_or (eb_not (eb_val (et_cal mo_wr_is_list (fun _ => .nil) (ea_cons (et_var 0) ea_nil)))) (eb_test (et_op o_lt (et_cl c_len (eax_cons (et_var 0).x eax_nil)).x (et_var 1).x))) (es_ret (et_bl false)) es_nil) (es_seq (es_if (eb_and (eb_test (et_op o_notN (et_var 2).x et_non.x)) (eb_test (et_op o_gt (et_cl c_len (eax_cons (et_var 0).x eax_nil)).x (et_var 2).x))) (es_ret (et_bl false)) es_nil) (es_ret (et_andV (et_cl c_all (eax_cons (en_lc (eis_seq (et_var 0)).ei (eg_name 3) eb_yes (et_cal mo_wr_is_name (fun _ => .nil) (ea_cons (et_var 3) ea_nil))).t.x eax_nil)) (et_cal mo_wr_are_different (fun _ => .nil) (ea_cons (et_var 0) ea_nil)))))), fun ts n k h => h.2⟩⟩
abbrev N_is_of_lot : List Str := ["text"]
def wb_is_of_lot : WS := (sRet (wOrV (wM1 fStarts (wVar 0) (wC (.str "old."))) (wM1 fStarts (wVar 0) (wC (.str "new.")))))
def wr_is_of_lot : WF := fun ts n k => ts.length = 1 ∧ wb_is_of_lot (startE N_is_of_lot ts) n { nx := fun _ m => k .non m, rt := k }
theorem mo_wr_is_of_lot : MonoF wr_is_of_lot := monoF (K := ([] : PySem.W.Frag)) (p := none) (N := N_is_of_lot) (es_ret (et_orV (et_m1 m_starts (et_var 0).x (et_str "old.").x) (et_m1 m_starts (et_var 0).x (et_str "new.").x)))
set_option maxHeartbeats 4000000 in
theorem ot_is_of_lot {t_NEW : Tok} {t_OLD : Tok} (F : FnP K "is_of_lot" s_is_of_lot [] f fd) (k_NEW : mg "NEW" = some (.str "new." t_NEW)) (k_OLD : mg "OLD" = some (.str "old." t_OLD)) : FnOk P w K mg base CX0 1 f fd ["text"] (spT K wr_is_of_lot) := by
  refine Tr.okT F sc_is_of_lot (fun ts n k h => h.1) fun cdv A outer s H E hr => ?_
  have nd := sc_is_of_lot.nd
  exact ⟨_, (pss_one (ps_ret (pe_or (pe_m1 (r := rStartsT) PySem.F.slot_str_startswith PySem.F.type_str_startswith mt_startsT (pv 0) (pe_glob (v := .str "old.") (by rfl) k_OLD ⟨_, rfl⟩)) (pe_one (pe_m1 (r := rStartsT) PySem.F.slot_str_startswith PySem.F.type_str_startswith mt_startsT (pv 0) (pe_glob (v := .str "new.") (by rfl) k_NEW ⟨_, rfl⟩)))))),
    fun p => ⟨wb_is_of_lot, fun _ _ _ _ => False, (es_ret (et_orV (et_m1 m_starts (et_var 0).x (et_str "old.").x) (et_m1 m_starts (et_var 0).x (et_str "new.").x))), fun ts n k h => h.2⟩⟩
abbrev N_name_in : List Str := ["word"]
def wb_name_in : WS := (sRet (wIf (wVal (wCal wr_is_of_lot (aCons (wVar 0) aNil) [])) (wSlS (wVar 0) (wPart (wCl fLen (aCons (wC (.str "old.")) aNil))) wNoPart) (wVar 0)))
def wr_name_in : WF := fun ts n k => ts.length = 1 ∧ wb_name_in (startE N_name_in ts) n { nx := fun _ m => k .non m, rt := k }
theorem mo_wr_name_in : MonoF wr_name_in := monoF (K := ([] : PySem.W.Frag)) (p := none) (N := N_name_in) (es_ret (et_if (eb_val (et_cal mo_wr_is_of_lot (fun _ => .nil) (ea_cons (et_var 0) ea_nil))) (et_slS (et_var 0).x (eo_some (et_cl c_len (eax_cons (et_str "old.").x eax_nil))) eo_none) (et_var 0)))
set_option maxHeartbeats 4000000 in
theorem ot_name_in {t_OLD : Tok} (F : FnP K "name_in" s_name_in [] f fd) (c_is_of_lot : Cal P w K mg base 1 "is_of_lot" [] (spT K wr_is_of_lot)) (k_OLD : mg "OLD" = some (.str "old." t_OLD)) (m_len : mg "len" = none) : FnOk P w K mg base CX0 2 f fd ["word"] (spT K wr_name_in) := by
  refine Tr.okT F sc_name_in (fun ts n k h => h.1) fun cdv A outer s H E hr => ?_
  have nd := sc_name_in.nd
  exact ⟨_, (pss_one (ps_ret (pe_ifExp (pt_val (pe_cal c_is_of_lot (hr.mono (show 1 ≤ 1 by decide)) (pa_cons (pv 0) pa_nil))) (pe_slice sl_str (pv 0) (po_some (pe_callB (r := (Tr.rLen K)) call_lenT (by rfl) m_len boot_len (pa_cons (pe_glob (v := .str "old.") (by rfl) k_OLD ⟨_, rfl⟩) pa_nil))) po_none) (pv 0)))),
    fun p => ⟨wb_name_in, fun _ _ _ _ => False, (es_ret (et_if (eb_val (et_cal mo_wr_is_of_lot (fun _ => .nil) (ea_cons (et_var 0) ea_nil))) (et_slS (et_var 0).x (eo_some (et_cl c_len (eax_cons (et_str "old.").x eax_nil))) eo_none) (et_var 0))), fun ts n k h => h.2⟩⟩
abbrev N_is_word : List Str := ["thing"]
def wb_is_word (Cs : List Addr) : WS := (sRet (wAndV (wIsi Cs [(.type "str")] (wVar 0)) (wCal (wr_is_name Cs) (aCons (wCal wr_name_in (aCons (wVar 0) aNil) []) aNil) [])))
def wr_is_word (Cs : List Addr) : WF := fun ts n k => ts.length = 1 ∧ (wb_is_word Cs) (startE N_is_word ts) n { nx := fun _ m => k .non m, rt := k }
theorem mo_wr_is_word {Cs : List Addr} : MonoF (wr_is_word Cs) := monoF (K := ([] : PySem.W.Frag)) (p := none) (N := N_is_word) (es_ret (et_andV (et_isiM (us := [(.type "str")]) (et_var 0).x) (et_cal mo_wr_is_name (fun _ => .nil) (ea_cons (et_cal mo_wr_name_in (fun _ => .nil) (ea_cons (et_var 0) ea_nil)) ea_nil))))
set_option maxHeartbeats 4000000 in
theorem ot_is_word {Cs : List Addr} (F : FnP K "is_word" s_is_word [] f fd) (c_name_in : Cal P w K mg base 2 "name_in" [] (spT K wr_name_in)) (c_is_name : Cal P w K mg base 1 "is_name" [] (spT K (wr_is_name Cs))) (m_isinstance : mg "isinstance" = none) (m_str : mg "str" = none) (OT : OwnTy K Cs) : FnOk P w K mg base CX0 3 f fd ["thing"] (spT K (wr_is_word Cs)) := by
  refine Tr.okT F sc_is_word (fun ts n k h => h.1) fun cdv A outer s H E hr => ?_
  have nd := sc_is_word.nd
  exact ⟨_, (pss_one (ps_ret (pe_and (pe_callB call_isi (by rfl) m_isinstance PyProof.Rows.Boot.«isinstance» (pa_cons (pv 0) (pa_cons (pe_bltn (v := .ty "str") (by rfl) m_str PyProof.Rows.Boot.«str» rfl) pa_nil))) (pe_one (pe_cal c_is_name (hr.mono (show 1 ≤ 2 by decide)) (pa_cons (pe_cal c_name_in (hr.mono (show 2 ≤ 2 by decide)) (pa_cons (pv 0) pa_nil)) pa_nil)))))),
    fun p => ⟨(wb_is_word Cs), fun _ _ _ _ => False, (es_ret (et_andV (et_isi (u := (.type "str")) OT (by first | rfl | exact decide_eq_true (by assumption)) (et_var 0).x) (et_cal mo_wr_is_name (fun _ => .nil) (ea_cons (et_cal mo_wr_name_in (fun _ => .nil) (ea_cons (et_var 0) ea_nil)) ea_nil)))), fun ts n k h => h.2⟩⟩
abbrev N_is_bound : List Str := ["thing"]
def wb_is_bound (Cs : List Addr) : WS := (sRet (wAndV (wCal (wr_is_integer Cs) (aCons (wVar 0) aNil) []) (wChain (fI fun i j => .bl (decide (i ≤ j))) (fI fun i j => .bl (decide (i ≤ j))) (wC (.int 0)) (wVar 0) (wC (.int 3)))))
def wr_is_bound (Cs : List Addr) : WF := fun ts n k => ts.length = 1 ∧ (wb_is_bound Cs) (startE N_is_bound ts) n { nx := fun _ m => k .non m, rt := k }
theorem mo_wr_is_bound {Cs : List Addr} : MonoF (wr_is_bound Cs) := monoF (K := ([] : PySem.W.Frag)) (p := none) (N := N_is_bound) (es_ret (et_andV (et_cal mo_wr_is_integer (fun _ => .nil) (ea_cons (et_var 0) ea_nil)) (et_chain o_le o_le (et_int 0).x (et_var 0).x (et_int 3).x)))
set_option maxHeartbeats 4000000 in
theorem ot_is_bound {t_GREATEST_BOUND : Tok} {Cs : List Addr} (F : FnP K "is_bound" s_is_bound [] f fd) (c_is_integer : Cal P w K mg base 1 "is_integer" [] (spT K (wr_is_integer Cs))) (k_GREATEST_BOUND : mg "GREATEST_BOUND" = some (.int 3 t_GREATEST_BOUND)) : FnOk P w K mg base CX0 2 f fd ["thing"] (spT K (wr_is_bound Cs)) := by
  refine Tr.okT F sc_is_bound (fun ts n k h => h.1) fun cdv A outer s H E hr => ?_
  have nd := sc_is_bound.nd
  exact ⟨_, (pss_one (ps_ret (pe_and (pe_cal c_is_integer (hr.mono (show 1 ≤ 1 by decide)) (pa_cons (pv 0) pa_nil)) (pe_one (pe_chain op_le op_le pe_int (pv 0) (pe_glob (v := .int 3) (by rfl) k_GREATEST_BOUND ⟨_, rfl⟩)))))),
    fun p => ⟨(wb_is_bound Cs), fun _ _ _ _ => False, (es_ret (et_andV (et_cal mo_wr_is_integer (fun _ => .nil) (ea_cons (et_var 0) ea_nil)) (et_chain o_le o_le (et_int 0).x (et_var 0).x (et_int 3).x))), fun ts n k h => h.2⟩⟩
abbrev N_are_words : List Str := ["thing", "word"]
def wb_are_words (Cs : List Addr) : WS := (sRet (wAndV (wCal (wr_is_list Cs) (aCons (wVar 0) aNil) []) (wAndV (w2 (fI fun i j => .bl (decide (j ≤ i))) (wCl fLen (aCons (wVar 0) aNil)) (wC (.int 1))) (wAndV (wCl fAll (aCons (wLc (iSeqT (wVar 0)) (wgName 1) bYes (wCal (wr_is_word Cs) (aCons (wVar 1) aNil) []) [1]) aNil)) (wCal wr_are_different (aCons (wVar 0) aNil) [])))))
def wr_are_words (Cs : List Addr) : WF := fun ts n k => ts.length = 1 ∧ (wb_are_words Cs) (startE N_are_words ts) n { nx := fun _ m => k .non m, rt := k }
theorem mo_wr_are_words {Cs : List Addr} : MonoF (wr_are_words Cs) := monoF (K := ([] : PySem.W.Frag)) (p := none) (N := N_are_words) (es_ret (et_andV (et_cal mo_wr_is_list (fun _ => .nil) (ea_cons (et_var 0) ea_nil)) (et_andV (et_op o_ge (et_cl c_len (eax_cons (et_var 0).x eax_nil)).x (et_int 1).x) (et_andV (et_cl c_all (eax_cons (en_lc (eis_seq (et_var 0)).ei (eg_name 1) eb_yes (et_cal mo_wr_is_word (fun _ => .nil) (ea_cons (et_var 1) ea_nil))).t.x eax_nil)) (et_cal mo_wr_are_different (fun _ => .nil) (ea_cons (et_var 0) ea_nil))))))
set_option maxHeartbeats 4000000 in
theorem ot_are_words {Cs : List Addr} (F : FnP K "are_words" s_are_words [] f fd) (c_is_list : Cal P w K mg base 1 "is_list" [] (spT K (wr_is_list Cs))) (c_is_word : Cal P w K mg base 3 "is_word" [] (spT K (wr_is_word Cs))) (c_are_different : Cal P w K mg base 1 "are_different" [] (spT K wr_are_different)) (m_all : mg "all" = none) (m_len : mg "len" = none) : FnOk P w K mg base CX0 4 f fd ["thing"] (spT K (wr_are_words Cs)) := by
  refine Tr.okT F sc_are_words (fun ts n k h => h.1) fun cdv A outer s H E hr => ?_
  have nd := sc_are_words.nd
  exact ⟨_, (pss_one (ps_ret (pe_and (pe_cal c_is_list (hr.mono (show 1 ≤ 3 by decide)) (pa_cons (pv 0) pa_nil)) (pe_and (pe_cmpR op_ge (pe_callB (r := (Tr.rLen K)) call_lenT (by rfl) m_len boot_len (pa_cons (pv 0) pa_nil)) pe_int (nomark _)) (pe_and (pe_callB (r := (rAll K)) (cr_all rfl) (by rfl) m_all (by decide +kernel) (pa_cons (pe_lc (own := [("word", 1)]) (g := (gName 1)) (tt := tYes) (te := (tCall (spT K (wr_is_word Cs)) [] L2.E0 (tCons (tVar 1) tNil))) rfl nd (pi_seq (pv 0)) (blkOk_by (N := N_are_words) (sc := defScope s_are_words) (by decide +kernel)) (fun _ _ _ _ _ => (pg_name (i := 1) nd rfl (by first | exact Or.inl rfl | exact Or.inr rfl))) (fun _ _ _ _ _ => pts_nil) (fun _ _ _ _ _ => (pe_cal c_is_word (hr.mono (show 3 ≤ 3 by decide)) (pa_cons (pv 1) pa_nil)))) pa_nil)) (pe_one (pe_cal c_are_different (hr.mono (show 1 ≤ 3 by decide)) (pa_cons (pv 0) pa_nil)))))))),
    fun p => ⟨(wb_are_words Cs), fun _ _ _ _ => False, (es_ret (et_andV (et_cal mo_wr_is_list (fun _ => .nil) (ea_cons (et_var 0) ea_nil)) (et_andV (et_op o_ge (et_cl c_len (eax_cons (et_var 0).x eax_nil)).x (et_int 1).x) (et_andV (et_cl c_all (eax_cons (en_lc (eis_seq (et_var 0)).ei (eg_name 1) eb_yes (et_cal mo_wr_is_word (fun _ => .nil) (ea_cons (et_var 1) ea_nil))).t.x eax_nil)) (et_cal mo_wr_are_different (fun _ => .nil) (ea_cons (et_var 0) ea_nil)))))), fun ts n k h => h.2⟩⟩
abbrev N_is_test : List Str := ["thing", "words", "least", "most"]
def wb_is_test (Cs : List Addr) : WS := (sSeq (sIf (bOr (bNot (wVal (wCal (wr_is_list Cs) (aCons (wVar 0) aNil) []))) (wVal (w2 fNe (wCl fLen (aCons (wVar 0) aNil)) (wC (.int 3))))) (sRet (wC (.bl false))) sNil) (sSeq (sAsg (wVar 0) (wgTup [1, 2, 3])) (sRet (wAndV (wCal (wr_are_words Cs) (aCons (wVar 1) aNil) []) (wAndV (wCal (wr_is_bound Cs) (aCons (wVar 2) aNil) []) (wOrV (w2 fIsN (wVar 3) (wC .non)) (wCal (wr_is_bound Cs) (aCons (wVar 3) aNil) [])))))))
def wr_is_test (Cs : List Addr) : WF := fun ts n k => ts.length = 1 ∧ (wb_is_test Cs) (startE N_is_test ts) n { nx := fun _ m => k .non m, rt := k }
theorem mo_wr_is_test {Cs : List Addr} : MonoF (wr_is_test Cs) := monoF (K := ([] : PySem.W.Frag)) (p := none) (N := N_is_test) (es_seq (es_if (eb_or (eb_not (eb_val (et_cal mo_wr_is_list (fun _ => .nil) (ea_cons (et_var 0) ea_nil)))) (eb_test (et_op o_ne (et_cl c_len (eax_cons (et_var 0).x eax_nil)).x (et_int 3).x))) (es_ret (et_bl false)) es_nil) (es_seq (es_asg (et_var 0) (eg_tup3 1 2 3)) (es_ret (et_andV (et_cal mo_wr_are_words (fun _ => .nil) (ea_cons (et_var 1) ea_nil)) (et_andV (et_cal mo_wr_is_bound (fun _ => .nil) (ea_cons (et_var 2) ea_nil)) (et_orV (et_op o_isN (et_var 3).x et_non.x) (et_cal mo_wr_is_bound (fun _ => .nil) (ea_cons (et_var 3) ea_nil))))))))
set_option maxHeartbeats 4000000 in
theorem ot_is_test {Cs : List Addr} (F : FnP K "is_test" s_is_test [] f fd) (c_is_list : Cal P w K mg base 1 "is_list" [] (spT K (wr_is_list Cs))) (c_are_words : Cal P w K mg base 4 "are_words" [] (spT K (wr_are_words Cs))) (c_is_bound : Cal P w K mg base 2 "is_bound" [] (spT K (wr_is_bound Cs))) (m_len : mg "len" = none) : FnOk P w K mg base CX0 5 f fd ["thing"] (spT K (wr_is_test Cs)) := by
  refine Tr.okT F sc_is_test (fun ts n k h => h.1) fun cdv A outer s H E hr => ?_
  have nd := sc_is_test.nd
  exact ⟨_, (pss_cons (ps_if (PW.pt (pw_or (pt_not (pt_val (pe_cal c_is_list (hr.mono (show 1 ≤ 4 by decide)) (pa_cons (pv 0) pa_nil)))) (pw_or1 (pt_cmpR (op_neD hr.units) (pe_callB (r := (Tr.rLen K)) call_lenT (by rfl) m_len boot_len (pa_cons (pv 0) pa_nil)) pe_int (nomark _))))) (pss_one (ps_ret pe_bl)) pss_nil) (pss_cons (ps_asg (pv 0) (pg_tup rfl (pgs_cons (pg_name (i := 1) nd rfl (by first | exact Or.inl rfl | exact Or.inr rfl)) (pgs_cons (pg_name (i := 2) nd rfl (by first | exact Or.inl rfl | exact Or.inr rfl)) (pgs_cons (pg_name (i := 3) nd rfl (by first | exact Or.inl rfl | exact Or.inr rfl)) pgs_nil)))) (by rfl)) (pss_one (ps_ret (pe_and (pe_cal c_are_words (hr.mono (show 4 ≤ 4 by decide)) (pa_cons (pv 1) pa_nil)) (pe_and (pe_cal c_is_bound (hr.mono (show 2 ≤ 4 by decide)) (pa_cons (pv 2) pa_nil)) (pe_one (pe_or (pe_cmpR op_isNT (pv 3) pe_non (nomark _)) (pe_one (pe_cal c_is_bound (hr.mono (show 2 ≤ 4 by decide)) (pa_cons (pv 3) pa_nil))))))))))),
    fun p => ⟨(wb_is_test Cs), fun _ _ _ _ => False, (es_seq (es_if (eb_or (eb_not (eb_val (et_cal mo_wr_is_list (fun _ => .nil) (ea_cons (et_var 0) ea_nil)))) (eb_test (et_op o_ne (et_cl c_len (eax_cons (et_var 0).x eax_nil)).x (et_int 3).x))) (es_ret (et_bl false)) es_nil) (es_seq (es_asg (et_var 0) (eg_tup3 1 2 3)) (es_ret (et_andV (et_cal mo_wr_are_words (fun _ => .nil) (ea_cons (et_var 1) ea_nil)) (et_andV (et_cal mo_wr_is_bound (fun _ => .nil) (ea_cons (et_var 2) ea_nil)) (et_orV (et_op o_isN (et_var 3).x et_non.x) (et_cal mo_wr_is_bound (fun _ => .nil) (ea_cons (et_var 3) ea_nil)))))))), fun ts n k h => h.2⟩⟩
abbrev N_is_verb : List Str := ["thing"]
def wb_is_verb (Cs : List Addr) : WS := (sRet (wAndV (wIsi Cs [(.type "str")] (wVar 0)) (w2 (fIn false) (wVar 0) (wTup (aCons (wC (.str "add")) (aCons (wC (.str "set")) aNil))))))
def wr_is_verb (Cs : List Addr) : WF := fun ts n k => ts.length = 1 ∧ (wb_is_verb Cs) (startE N_is_verb ts) n { nx := fun _ m => k .non m, rt := k }
theorem mo_wr_is_verb {Cs : List Addr} : MonoF (wr_is_verb Cs) := monoF (K := ([] : PySem.W.Frag)) (p := none) (N := N_is_verb) (es_ret (et_andV (et_isiM (us := [(.type "str")]) (et_var 0).x) (et_op (o_in false) (et_var 0).x (et_tup (ea_cons (et_str "add") (ea_cons (et_str "set") ea_nil))).x)))
set_option maxHeartbeats 4000000 in
theorem ot_is_verb {t_ADD : Tok} {t_SET : Tok} {Cs : List Addr} (F : FnP K "is_verb" s_is_verb [] f fd) (k_ADD : mg "ADD" = some (.str "add" t_ADD)) (k_SET : mg "SET" = some (.str "set" t_SET)) (m_isinstance : mg "isinstance" = none) (m_str : mg "str" = none) (OT : OwnTy K Cs) : FnOk P w K mg base CX0 1 f fd ["thing"] (spT K (wr_is_verb Cs)) := by
  refine Tr.okT F sc_is_verb (fun ts n k h => h.1) fun cdv A outer s H E hr => ?_
  have nd := sc_is_verb.nd
  exact ⟨_, (pss_one (ps_ret (pe_and (pe_callB call_isi (by rfl) m_isinstance PyProof.Rows.Boot.«isinstance» (pa_cons (pv 0) (pa_cons (pe_bltn (v := .ty "str") (by rfl) m_str PyProof.Rows.Boot.«str» rfl) pa_nil))) (pe_one (pe_cmpR op_in_seq (pv 0) (pe_tup (pa_cons (pe_glob (v := .str "add") (by rfl) k_ADD ⟨_, rfl⟩) (pa_cons (pe_glob (v := .str "set") (by rfl) k_SET ⟨_, rfl⟩) pa_nil))) (by rfl)))))),
    fun p => ⟨(wb_is_verb Cs), fun _ _ _ _ => False, (es_ret (et_andV (et_isi (u := (.type "str")) OT (by first | rfl | exact decide_eq_true (by assumption)) (et_var 0).x) (et_op (o_in false) (et_var 0).x (et_tup (ea_cons (et_str "add") (ea_cons (et_str "set") ea_nil))).x))), fun ts n k h => h.2⟩⟩
abbrev N_is_deed : List Str := ["thing"]
def wb_is_deed (Cs : List Addr) (C_Form : Addr) (C_Statement : Addr) : WS := (sSeq (sIf (wVal (wIsi Cs [(.type "str")] (wVar 0))) (sRet (w2 fEqTS (wVar 0) (wC (.str "refuse")))) sNil) (sSeq (sIf (wVal (wCal (wr_is_list Cs) (aCons (wVar 0) aNil) [])) (sRet (wAndV (w2 fEq (wCl fLen (aCons (wVar 0) aNil)) (wC (.int 3))) (wAndV (wCal (wr_is_verb Cs) (aCons (w2 fIxT (wVar 0) (wC (.int 0))) aNil) []) (wAndV (wCal (wr_is_name Cs) (aCons (w2 fIxT (wVar 0) (wC (.int 1))) aNil) []) (wIsi Cs [(.ref C_Form)] (w2 fIxT (wVar 0) (wC (.int 2)))))))) sNil) (sRet (wIsi Cs [(.ref C_Statement)] (wVar 0)))))
def wr_is_deed (Cs : List Addr) (C_Form : Addr) (C_Statement : Addr) : WF := fun ts n k => ts.length = 1 ∧ (wb_is_deed Cs C_Form C_Statement) (startE N_is_deed ts) n { nx := fun _ m => k .non m, rt := k }
theorem mo_wr_is_deed {Cs : List Addr} {C_Form : Addr} {C_Statement : Addr} : MonoF (wr_is_deed Cs C_Form C_Statement) := monoF (K := ([] : PySem.W.Frag)) (p := none) (N := N_is_deed) (es_seq (es_if (eb_val (et_isiM (us := [(.type "str")]) (et_var 0).x)) (es_ret (et_op o_eqTS (et_var 0).x (et_str "refuse").x)) es_nil) (es_seq (es_if (eb_val (et_cal mo_wr_is_list (fun _ => .nil) (ea_cons (et_var 0) ea_nil))) (es_ret (et_andV (et_op o_eq (et_cl c_len (eax_cons (et_var 0).x eax_nil)).x (et_int 3).x) (et_andV (et_cal mo_wr_is_verb (fun _ => .nil) (ea_cons (et_op o_ixT (et_var 0).x (et_int 0).x) ea_nil)) (et_andV (et_cal mo_wr_is_name (fun _ => .nil) (ea_cons (et_op o_ixT (et_var 0).x (et_int 1).x) ea_nil)) (et_isiM (us := [(.ref C_Form)]) (et_op o_ixT (et_var 0).x (et_int 2).x).x))))) es_nil) (es_ret (et_isiM (us := [(.ref C_Statement)]) (et_var 0).x))))
set_option maxHeartbeats 4000000 in
theorem ot_is_deed {t_REFUSE : Tok} {Cs : List Addr} {C_Form : Addr} {C_Statement : Addr} (F : FnP K "is_deed" s_is_deed [] f fd) (c_is_list : Cal P w K mg base 1 "is_list" [] (spT K (wr_is_list Cs))) (c_is_verb : Cal P w K mg base 1 "is_verb" [] (spT K (wr_is_verb Cs))) (c_is_name : Cal P w K mg base 1 "is_name" [] (spT K (wr_is_name Cs))) (k_REFUSE : mg "REFUSE" = some (.str "refuse" t_REFUSE)) (m_isinstance : mg "isinstance" = none) (m_len : mg "len" = none) (m_str : mg "str" = none) (g_Form : mg "Form" = some (.ref C_Form)) (g_Statement : mg "Statement" = some (.ref C_Statement)) (OT : OwnTy K Cs) (i_Form : C_Form ∈ Cs) (i_Statement : C_Statement ∈ Cs) : FnOk P w K mg base CX0 2 f fd ["thing"] (spT K (wr_is_deed Cs C_Form C_Statement)) := by
  refine Tr.okT F sc_is_deed (fun ts n k h => h.1) fun cdv A outer s H E hr => ?_
  have nd := sc_is_deed.nd
  exact ⟨_, (pss_cons (ps_if (pt_val (pe_callB call_isi (by rfl) m_isinstance PyProof.Rows.Boot.«isinstance» (pa_cons (pv 0) (pa_cons (pe_bltn (v := .ty "str") (by rfl) m_str PyProof.Rows.Boot.«str» rfl) pa_nil)))) (pss_one (ps_ret (pe_cmpR (op_eqTS hr.units) (pv 0) (pe_glob (v := .str "refuse") (by rfl) k_REFUSE ⟨_, rfl⟩) (nomark _)))) pss_nil) (pss_cons (ps_if (pt_val (pe_cal c_is_list (hr.mono (show 1 ≤ 1 by decide)) (pa_cons (pv 0) pa_nil))) (pss_one (ps_ret (pe_and (pe_cmpR (op_eqD hr.units) (pe_callB (r := (Tr.rLen K)) call_lenT (by rfl) m_len boot_len (pa_cons (pv 0) pa_nil)) pe_int (nomark _)) (pe_and (pe_cal c_is_verb (hr.mono (show 1 ≤ 1 by decide)) (pa_cons (pe_ix ix_tup (pv 0) pe_int (fun _ _ => rfl)) pa_nil)) (pe_and (pe_cal c_is_name (hr.mono (show 1 ≤ 1 by decide)) (pa_cons (pe_ix ix_tup (pv 0) pe_int (fun _ _ => rfl)) pa_nil)) (pe_one (pe_callB call_isi (by rfl) m_isinstance PyProof.Rows.Boot.«isinstance» (pa_cons (pe_ix ix_tup (pv 0) pe_int (fun _ _ => rfl)) (pa_cons (pe_glob (v := .ref C_Form) (by rfl) g_Form rfl) pa_nil))))))))) pss_nil) (pss_one (ps_ret (pe_callB call_isi (by rfl) m_isinstance PyProof.Rows.Boot.«isinstance» (pa_cons (pv 0) (pa_cons (pe_glob (v := .ref C_Statement) (by rfl) g_Statement rfl) pa_nil))))))),
    fun p => ⟨(wb_is_deed Cs C_Form C_Statement), fun _ _ _ _ => False, (es_seq (es_if (eb_val (et_isi (u := (.type "str")) OT (by first | rfl | exact decide_eq_true (by assumption)) (et_var 0).x)) (es_ret (et_op o_eqTS (et_var 0).x (et_str "refuse").x)) es_nil) (es_seq (es_if (eb_val (et_cal mo_wr_is_list (fun _ => .nil) (ea_cons (et_var 0) ea_nil))) (es_ret (et_andV (et_op o_eq (et_cl c_len (eax_cons (et_var 0).x eax_nil)).x (et_int 3).x) (et_andV (et_cal mo_wr_is_verb (fun _ => .nil) (ea_cons (et_op o_ixT (et_var 0).x (et_int 0).x) ea_nil)) (et_andV (et_cal mo_wr_is_name (fun _ => .nil) (ea_cons (et_op o_ixT (et_var 0).x (et_int 1).x) ea_nil)) (et_isi (u := (.ref C_Form)) OT (by first | rfl | exact decide_eq_true (by assumption)) (et_op o_ixT (et_var 0).x (et_int 2).x).x))))) es_nil) (es_ret (et_isi (u := (.ref C_Statement)) OT (by first | rfl | exact decide_eq_true (by assumption)) (et_var 0).x)))), fun ts n k h => h.2⟩⟩
abbrev N_kept_test : List Str := ["test", "words", "least", "most"]
def wb_kept_test : WS := (sSeq (sAsg (wVar 0) (wgTup [1, 2, 3])) (sRet (wTup (aCons (wCl fTupC (aCons (wSortQ (wVar 1)) aNil)) (aCons (wVar 2) (aCons (wVar 3) aNil))))))
def wr_kept_test : WF := fun ts n k => ts.length = 1 ∧ wb_kept_test (startE N_kept_test ts) n { nx := fun _ m => k .non m, rt := k }
theorem mo_wr_kept_test : MonoF wr_kept_test := monoF (K := ([] : PySem.W.Frag)) (p := none) (N := N_kept_test) (es_seq (es_asg (et_var 0) (eg_tup3 1 2 3)) (es_ret (et_tup (ea_cons (et_cl c_tup (eax_cons (en_sortQ (et_var 1).x).t.x eax_nil)) (ea_cons (et_var 2) (ea_cons (et_var 3) ea_nil))))))
set_option maxHeartbeats 4000000 in
theorem ot_kept_test (F : FnP K "kept_test" s_kept_test [] f fd) (m_sorted : mg "sorted" = none) (m_tuple : mg "tuple" = none) : FnOk P w K mg base CX0 1 f fd ["test"] (spT K wr_kept_test) := by
  refine Tr.okT F sc_kept_test (fun ts n k h => h.1) fun cdv A outer s H E hr => ?_
  have nd := sc_kept_test.nd
  exact ⟨_, (pss_cons (ps_asg (pv 0) (pg_tup rfl (pgs_cons (pg_name (i := 1) nd rfl (by first | exact Or.inl rfl | exact Or.inr rfl)) (pgs_cons (pg_name (i := 2) nd rfl (by first | exact Or.inl rfl | exact Or.inr rfl)) (pgs_cons (pg_name (i := 3) nd rfl (by first | exact Or.inl rfl | exact Or.inr rfl)) pgs_nil)))) (by rfl)) (pss_one (ps_ret (pe_tup (pa_cons (pe_callTy (r := (rTupC K)) call_tupT (by rfl) m_tuple (by decide +kernel) (pa_cons (pe_callB (r := rSortedSQ K) cr_sortedSQ (by rfl) m_sorted (by decide +kernel) (pa_cons (pv 1) pa_nil)) pa_nil)) (pa_cons (pv 2) (pa_cons (pv 3) pa_nil))))))),
    fun p => ⟨wb_kept_test, fun _ _ _ _ => False, (es_seq (es_asg (et_var 0) (eg_tup3 1 2 3)) (es_ret (et_tup (ea_cons (et_cl c_tup (eax_cons (en_sortQ (et_var 1).x).t.x eax_nil)) (ea_cons (et_var 2) (ea_cons (et_var 3) ea_nil)))))), fun ts n k h => h.2⟩⟩
abbrev N_kept_deed : List Str := ["deed"]
def wb_kept_deed (Cs : List Addr) : WS := (sRet (wIf (wVal (wCal (wr_is_list Cs) (aCons (wVar 0) aNil) [])) (wCl fTupC (aCons (wVar 0) aNil)) (wVar 0)))
def wr_kept_deed (Cs : List Addr) : WF := fun ts n k => ts.length = 1 ∧ (wb_kept_deed Cs) (startE N_kept_deed ts) n { nx := fun _ m => k .non m, rt := k }
theorem mo_wr_kept_deed {Cs : List Addr} : MonoF (wr_kept_deed Cs) := monoF (K := ([] : PySem.W.Frag)) (p := none) (N := N_kept_deed) (es_ret (et_if (eb_val (et_cal mo_wr_is_list (fun _ => .nil) (ea_cons (et_var 0) ea_nil))) (et_cl c_tup (eax_cons (et_var 0).x eax_nil)) (et_var 0)))
set_option maxHeartbeats 4000000 in
theorem ot_kept_deed {Cs : List Addr} (F : FnP K "kept_deed" s_kept_deed [] f fd) (c_is_list : Cal P w K mg base 1 "is_list" [] (spT K (wr_is_list Cs))) (m_tuple : mg "tuple" = none) : FnOk P w K mg base CX0 2 f fd ["deed"] (spT K (wr_kept_deed Cs)) := by
  refine Tr.okT F sc_kept_deed (fun ts n k h => h.1) fun cdv A outer s H E hr => ?_
  have nd := sc_kept_deed.nd
  exact ⟨_, (pss_one (ps_ret (pe_ifExp (pt_val (pe_cal c_is_list (hr.mono (show 1 ≤ 1 by decide)) (pa_cons (pv 0) pa_nil))) (pe_callTy (r := (rTupC K)) call_tupT (by rfl) m_tuple (by decide +kernel) (pa_cons (pv 0) pa_nil)) (pv 0)))),
    fun p => ⟨(wb_kept_deed Cs), fun _ _ _ _ => False, (es_ret (et_if (eb_val (et_cal mo_wr_is_list (fun _ => .nil) (ea_cons (et_var 0) ea_nil))) (et_cl c_tup (eax_cons (et_var 0).x eax_nil)) (et_var 0))), fun ts n k h => h.2⟩⟩
abbrev N_are_tests : List Str := ["thing", "test"]
def wb_are_tests (Cs : List Addr) : WS := (sRet (wAndV (wCal (wr_is_list Cs) (aCons (wVar 0) aNil) []) (wAndV (w2 (fI fun i j => .bl (decide (i ≤ j))) (wCl fLen (aCons (wVar 0) aNil)) (wC (.int 3))) (wCl fAll (aCons (wLc (iSeqT (wVar 0)) (wgName 1) bYes (wCal (wr_is_test Cs) (aCons (wVar 1) aNil) []) [1]) aNil)))))
def wr_are_tests (Cs : List Addr) : WF := fun ts n k => ts.length = 1 ∧ (wb_are_tests Cs) (startE N_are_tests ts) n { nx := fun _ m => k .non m, rt := k }
theorem mo_wr_are_tests {Cs : List Addr} : MonoF (wr_are_tests Cs) := monoF (K := ([] : PySem.W.Frag)) (p := none) (N := N_are_tests) (es_ret (et_andV (et_cal mo_wr_is_list (fun _ => .nil) (ea_cons (et_var 0) ea_nil)) (et_andV (et_op o_le (et_cl c_len (eax_cons (et_var 0).x eax_nil)).x (et_int 3).x) (et_cl c_all (eax_cons (en_lc (eis_seq (et_var 0)).ei (eg_name 1) eb_yes (et_cal mo_wr_is_test (fun _ => .nil) (ea_cons (et_var 1) ea_nil))).t.x eax_nil)))))
set_option maxHeartbeats 4000000 in
theorem ot_are_tests {t_MOST_TESTS : Tok} {Cs : List Addr} (F : FnP K "are_tests" s_are_tests [] f fd) (c_is_list : Cal P w K mg base 1 "is_list" [] (spT K (wr_is_list Cs))) (c_is_test : Cal P w K mg base 5 "is_test" [] (spT K (wr_is_test Cs))) (k_MOST_TESTS : mg "MOST_TESTS" = some (.int 3 t_MOST_TESTS)) (m_all : mg "all" = none) (m_len : mg "len" = none) : FnOk P w K mg base CX0 6 f fd ["thing"] (spT K (wr_are_tests Cs)) := by
  refine Tr.okT F sc_are_tests (fun ts n k h => h.1) fun cdv A outer s H E hr => ?_
  have nd := sc_are_tests.nd
  exact ⟨_, (pss_one (ps_ret (pe_and (pe_cal c_is_list (hr.mono (show 1 ≤ 5 by decide)) (pa_cons (pv 0) pa_nil)) (pe_and (pe_cmpR op_le (pe_callB (r := (Tr.rLen K)) call_lenT (by rfl) m_len boot_len (pa_cons (pv 0) pa_nil)) (pe_glob (v := .int 3) (by rfl) k_MOST_TESTS ⟨_, rfl⟩) (nomark _)) (pe_one (pe_callB (r := (rAll K)) (cr_all rfl) (by rfl) m_all (by decide +kernel) (pa_cons (pe_lc (own := [("test", 1)]) (g := (gName 1)) (tt := tYes) (te := (tCall (spT K (wr_is_test Cs)) [] L2.E0 (tCons (tVar 1) tNil))) rfl nd (pi_seq (pv 0)) (blkOk_by (N := N_are_tests) (sc := defScope s_are_tests) (by decide +kernel)) (fun _ _ _ _ _ => (pg_name (i := 1) nd rfl (by first | exact Or.inl rfl | exact Or.inr rfl))) (fun _ _ _ _ _ => pts_nil) (fun _ _ _ _ _ => (pe_cal c_is_test (hr.mono (show 5 ≤ 5 by decide)) (pa_cons (pv 1) pa_nil)))) pa_nil))))))),
    fun p => ⟨(wb_are_tests Cs), fun _ _ _ _ => False, (es_ret (et_andV (et_cal mo_wr_is_list (fun _ => .nil) (ea_cons (et_var 0) ea_nil)) (et_andV (et_op o_le (et_cl c_len (eax_cons (et_var 0).x eax_nil)).x (et_int 3).x) (et_cl c_all (eax_cons (en_lc (eis_seq (et_var 0)).ei (eg_name 1) eb_yes (et_cal mo_wr_is_test (fun _ => .nil) (ea_cons (et_var 1) ea_nil))).t.x eax_nil))))), fun ts n k h => h.2⟩⟩
abbrev N_are_deeds : List Str := ["thing", "deed"]
def wb_are_deeds (Cs : List Addr) (C_Form : Addr) (C_Statement : Addr) : WS := (sRet (wAndV (wCal (wr_is_list Cs) (aCons (wVar 0) aNil) []) (wAndV (w2 (fI fun i j => .bl (decide (i ≤ j))) (wCl fLen (aCons (wVar 0) aNil)) (wC (.int 4))) (wCl fAll (aCons (wLc (iSeqT (wVar 0)) (wgName 1) bYes (wCal (wr_is_deed Cs C_Form C_Statement) (aCons (wVar 1) aNil) []) [1]) aNil)))))
def wr_are_deeds (Cs : List Addr) (C_Form : Addr) (C_Statement : Addr) : WF := fun ts n k => ts.length = 1 ∧ (wb_are_deeds Cs C_Form C_Statement) (startE N_are_deeds ts) n { nx := fun _ m => k .non m, rt := k }
theorem mo_wr_are_deeds {Cs : List Addr} {C_Form : Addr} {C_Statement : Addr} : MonoF (wr_are_deeds Cs C_Form C_Statement) := monoF (K := ([] : PySem.W.Frag)) (p := none) (N := N_are_deeds) (es_ret (et_andV (et_cal mo_wr_is_list (fun _ => .nil) (ea_cons (et_var 0) ea_nil)) (et_andV (et_op o_le (et_cl c_len (eax_cons (et_var 0).x eax_nil)).x (et_int 4).x) (et_cl c_all (eax_cons (en_lc (eis_seq (et_var 0)).ei (eg_name 1) eb_yes (et_cal mo_wr_is_deed (fun _ => .nil) (ea_cons (et_var 1) ea_nil))).t.x eax_nil)))))
set_option maxHeartbeats 4000000 in
theorem ot_are_deeds {t_MOST_DEEDS : Tok} {Cs : List Addr} {C_Form : Addr} {C_Statement : Addr} (F : FnP K "are_deeds" s_are_deeds [] f fd) (c_is_list : Cal P w K mg base 1 "is_list" [] (spT K (wr_is_list Cs))) (c_is_deed : Cal P w K mg base 2 "is_deed" [] (spT K (wr_is_deed Cs C_Form C_Statement))) (k_MOST_DEEDS : mg "MOST_DEEDS" = some (.int 4 t_MOST_DEEDS)) (m_all : mg "all" = none) (m_len : mg "len" = none) : FnOk P w K mg base CX0 3 f fd ["thing"] (spT K (wr_are_deeds Cs C_Form C_Statement)) := by
  refine Tr.okT F sc_are_deeds (fun ts n k h => h.1) fun cdv A outer s H E hr => ?_
  have nd := sc_are_deeds.nd
  exact ⟨_, (pss_one (ps_ret (pe_and (pe_cal c_is_list (hr.mono (show 1 ≤ 2 by decide)) (pa_cons (pv 0) pa_nil)) (pe_and (pe_cmpR op_le (pe_callB (r := (Tr.rLen K)) call_lenT (by rfl) m_len boot_len (pa_cons (pv 0) pa_nil)) (pe_glob (v := .int 4) (by rfl) k_MOST_DEEDS ⟨_, rfl⟩) (nomark _)) (pe_one (pe_callB (r := (rAll K)) (cr_all rfl) (by rfl) m_all (by decide +kernel) (pa_cons (pe_lc (own := [("deed", 1)]) (g := (gName 1)) (tt := tYes) (te := (tCall (spT K (wr_is_deed Cs C_Form C_Statement)) [] L2.E0 (tCons (tVar 1) tNil))) rfl nd (pi_seq (pv 0)) (blkOk_by (N := N_are_deeds) (sc := defScope s_are_deeds) (by decide +kernel)) (fun _ _ _ _ _ => (pg_name (i := 1) nd rfl (by first | exact Or.inl rfl | exact Or.inr rfl))) (fun _ _ _ _ _ => pts_nil) (fun _ _ _ _ _ => (pe_cal c_is_deed (hr.mono (show 2 ≤ 2 by decide)) (pa_cons (pv 1) pa_nil)))) pa_nil))))))),
    fun p => ⟨(wb_are_deeds Cs C_Form C_Statement), fun _ _ _ _ => False, (es_ret (et_andV (et_cal mo_wr_is_list (fun _ => .nil) (ea_cons (et_var 0) ea_nil)) (et_andV (et_op o_le (et_cl c_len (eax_cons (et_var 0).x eax_nil)).x (et_int 4).x) (et_cl c_all (eax_cons (en_lc (eis_seq (et_var 0)).ei (eg_name 1) eb_yes (et_cal mo_wr_is_deed (fun _ => .nil) (ea_cons (et_var 1) ea_nil))).t.x eax_nil))))), fun ts n k h => h.2⟩⟩
abbrev N_Trigger_label : List Str := ["self"]
def wb_Trigger_label (C_Trigger : Addr) : WS := (sRet (wFldC (wVar 0) C_Trigger "_label"))
def wr_Trigger_label (C_Trigger : Addr) : WF := fun ts n k => ts.length = 1 ∧ (wb_Trigger_label C_Trigger) (startE N_Trigger_label ts) n { nx := fun _ m => k .non m, rt := k }
theorem mo_wr_Trigger_label {C_Trigger : Addr} : MonoF (wr_Trigger_label C_Trigger) := monoF (K := ([] : PySem.W.Frag)) (p := none) (N := N_Trigger_label) (es_ret (et_fldM (et_var 0).x))
set_option maxHeartbeats 4000000 in
theorem ot_Trigger_label {C_Trigger : Addr} (F : FunD K "label" "Trigger.label" (defArgs s_Trigger_label) (defBody s_Trigger_label) (defScope s_Trigger_label) [] [] f fd) (cls_Trigger : Cls K C_Trigger) (na_Trigger__label : NoAttr K C_Trigger "_label") : FnOk P w K mg base CX0 1 f fd ["self"] (spT K (wr_Trigger_label C_Trigger)) := by
  refine Tr.okT F sc_Trigger_label (fun ts n k h => h.1) fun cdv A outer s H E hr => ?_
  have nd := sc_Trigger_label.nd
  exact ⟨_, (pss_one (ps_ret (pe_fld (pv 0) rfl))),
    fun p => ⟨(wb_Trigger_label C_Trigger), fun _ _ _ _ => False, (es_ret (et_fld cls_Trigger na_Trigger__label (et_var 0).x)), fun ts n k h => h.2⟩⟩
abbrev N_l_lots : List Str := ["_law_kinds", "_law_kind"]
def wb_l_lots : WS := (sRet (w2 fCat (wLc (iLst (wVar 0)) (wgName 1) bYes (w2 fAddS (wC (.str "old.")) (wVar 1)) [1]) (wLc (iLst (wVar 0)) (wgName 1) bYes (w2 fAddS (wC (.str "new.")) (wVar 1)) [1])))
def wr_l_lots : WF := fun ts n k => ts.length = 1 ∧ wb_l_lots (startE N_l_lots ts) n { nx := fun _ m => k .non m, rt := k }
theorem mo_wr_l_lots : MonoF wr_l_lots := monoF (K := ([] : PySem.W.Frag)) (p := none) (N := N_l_lots) (es_ret (en_op o_cat (en_lc (ei_list (et_var 0).x) (eg_name 1) eb_yes (et_op o_addS (et_str "old.").x (et_var 1).x)).t.x (en_lc (ei_list (et_var 0).x) (eg_name 1) eb_yes (et_op o_addS (et_str "new.").x (et_var 1).x)).t.x).t)
set_option maxHeartbeats 4000000 in
theorem ot_l_lots (F : FnP K "_law_lots" s_l_lots [] f fd) : FnOk P w K mg base CX0 1 f fd ["_law_kinds"] (spT K wr_l_lots) := by
  refine Tr.okT F sc_l_lots (fun ts n k h => h.1) fun cdv A outer s H E hr => ?_
  have nd := sc_l_lots.nd
  exact ⟨_, (pss_one (ps_ret (pe_op op_cat (pe_lc (own := [("_law_kind", 1)]) (g := (gName 1)) (tt := tYes) (te := (tOp Tr.rAddS (tC (.str "old.")) (tVar 1))) rfl nd (pi_list (pv 0)) (blkOk_by (N := N_l_lots) (sc := defScope s_l_lots) (by decide +kernel)) (fun _ _ _ _ _ => (pg_name (i := 1) nd rfl (by first | exact Or.inl rfl | exact Or.inr rfl))) (fun _ _ _ _ _ => pts_nil) (fun _ _ _ _ _ => (pe_op op_addS pe_str (pv 1)))) (pe_lc (own := [("_law_kind", 1)]) (g := (gName 1)) (tt := tYes) (te := (tOp Tr.rAddS (tC (.str "new.")) (tVar 1))) rfl nd (pi_list (pv 0)) (blkOk_by (N := N_l_lots) (sc := defScope s_l_lots) (by decide +kernel)) (fun _ _ _ _ _ => (pg_name (i := 1) nd rfl (by first | exact Or.inl rfl | exact Or.inr rfl))) (fun _ _ _ _ _ => pts_nil) (fun _ _ _ _ _ => (pe_op op_addS pe_str (pv 1))))))),
    fun p => ⟨wb_l_lots, fun _ _ _ _ => False, (es_ret (en_op o_cat (en_lc (ei_list (et_var 0).x) (eg_name 1) eb_yes (et_op o_addS (et_str "old.").x (et_var 1).x)).t.x (en_lc (ei_list (et_var 0).x) (eg_name 1) eb_yes (et_op o_addS (et_str "new.").x (et_var 1).x)).t.x).t), fun ts n k h => h.2⟩⟩
abbrev N_l_sum : List Str := ["_law_source_here", "_law_words", "_law_parts", "_law_word"]
def wb_l_sum : WS := (sSeq (sOwn wDNew 2) (sSeq (sFor (iLst (wSlL (wCal someW (aCons (wVar 0) (aCons (wVar 1) aNil)) []) wNoPart (wPart (wC (.int 3))))) (wgName 3) (sPut 2 (wVar 3) (w2 fIxL (wLst (aCons (wC (.int 1)) (aCons (wC (.int 1)) (aCons (wNeg (wC (.int 1))) (aCons (wC (.int 2)) (aCons (wNeg (wC (.int 3))) aNil)))))) (wCal drawW (aCons (wVar 0) (aCons (wC (.int 5)) aNil)) [])))) (sFrz 2 (sRet (wTup (aCons (wVar 2) (aCons (w2 fIxL (wLst (aCons (wC (.int 0)) (aCons (wC (.int 0)) (aCons (wC (.int 1)) (aCons (wNeg (wC (.int 2))) aNil))))) (wCal drawW (aCons (wVar 0) (aCons (wC (.int 4)) aNil)) [])) aNil)))))))
def wr_l_sum : WF := fun ts n k => ts.length = 2 ∧ wb_l_sum (startE N_l_sum ts) n { nx := fun _ m => k .non m, rt := k }
theorem mo_wr_l_sum : MonoF wr_l_sum := monoF (K := ([] : PySem.W.Frag)) (p := none) (N := N_l_sum) (es_seq (es_own 2 en_dnew) (es_seq (es_for (eis_list (en_slL (et_cal mo_someW (fun _ => .nil) (ea_cons (et_var 0) (ea_cons (et_var 1) ea_nil))).x eo_none (eo_some (et_int 3))).t) (eg_name 3) (es_put 2 (et_var 3) (et_op o_ixL (en_lst (ea_cons (et_int 1) (ea_cons (et_int 1) (ea_cons (et_neg (et_int 1)) (ea_cons (et_int 2) (ea_cons (et_neg (et_int 3)) ea_nil)))))).t.x (et_cal mo_drawW (fun _ => .nil) (ea_cons (et_var 0) (ea_cons (et_int 5) ea_nil))).x))) (es_frz 2 (es_ret (et_tup (ea_cons (et_var 2) (ea_cons (et_op o_ixL (en_lst (ea_cons (et_int 0) (ea_cons (et_int 0) (ea_cons (et_int 1) (ea_cons (et_neg (et_int 2)) ea_nil))))).t.x (et_cal mo_drawW (fun _ => .nil) (ea_cons (et_var 0) (ea_cons (et_int 4) ea_nil))).x) ea_nil)))))))
set_option maxHeartbeats 4000000 in
theorem ot_l_sum (F : FnP K "_law_sum" s_l_sum [] f fd) (c__law_some : Cal P w K mg base 3 "_law_some" [] (spT K someW)) (c__law_draw : Cal P w K mg base 1 "_law_draw" [] (spT K drawW)) : FnOk P w K mg base CX0 4 f fd ["_law_source_here", "_law_words"] (spT K wr_l_sum) := by
  refine Tr.okT F sc_l_sum (fun ts n k h => h.1) fun cdv A outer s H E hr => ?_
  have nd := sc_l_sum.nd
  exact ⟨_, (pss_cons (ps_set (i := 2) nd rfl (by first | exact Or.inl rfl | exact Or.inr rfl) pe_dnewK) (pss_cons (ps_for PassesOwn.never rfl (pi_list (pe_slice sl_list (pe_cal c__law_some (hr.mono (show 3 ≤ 3 by decide)) (pa_cons (pv 0) (pa_cons (pv 1) pa_nil))) po_none (po_some pe_int))) (pg_name (i := 3) nd rfl (by first | exact Or.inl rfl | exact Or.inr rfl)) (pss_one (ps_dput (hu_of hr) (pv 2) (pv 3) (pe_ix ix_list (pe_lst (pa_cons pe_int (pa_cons pe_int (pa_cons (pe_un un_neg pe_int) (pa_cons pe_int (pa_cons (pe_un un_neg pe_int) pa_nil)))))) (pe_cal c__law_draw (hr.mono (show 1 ≤ 3 by decide)) (pa_cons (pv 0) (pa_cons pe_int pa_nil))) (fun _ _ => rfl)) rfl))) (pss_one (ps_ret (pe_tup (pa_cons (pv 2) (pa_cons (pe_ix ix_list (pe_lst (pa_cons pe_int (pa_cons pe_int (pa_cons pe_int (pa_cons (pe_un un_neg pe_int) pa_nil))))) (pe_cal c__law_draw (hr.mono (show 1 ≤ 3 by decide)) (pa_cons (pv 0) (pa_cons pe_int pa_nil))) (fun _ _ => rfl)) pa_nil))))))),
    fun p => ⟨wb_l_sum, fun _ _ _ _ => False, (es_seq (es_own 2 en_dnew) (es_seq (es_for (eis_list (en_slL (et_cal mo_someW (fun _ => .nil) (ea_cons (et_var 0) (ea_cons (et_var 1) ea_nil))).x eo_none (eo_some (et_int 3))).t) (eg_name 3) (es_put 2 (et_var 3) (et_op o_ixL (en_lst (ea_cons (et_int 1) (ea_cons (et_int 1) (ea_cons (et_neg (et_int 1)) (ea_cons (et_int 2) (ea_cons (et_neg (et_int 3)) ea_nil)))))).t.x (et_cal mo_drawW (fun _ => .nil) (ea_cons (et_var 0) (ea_cons (et_int 5) ea_nil))).x))) (es_frz 2 (es_ret (et_tup (ea_cons (et_var 2) (ea_cons (et_op o_ixL (en_lst (ea_cons (et_int 0) (ea_cons (et_int 0) (ea_cons (et_int 1) (ea_cons (et_neg (et_int 2)) ea_nil))))).t.x (et_cal mo_drawW (fun _ => .nil) (ea_cons (et_var 0) (ea_cons (et_int 4) ea_nil))).x) ea_nil))))))), fun ts n k h => h.2⟩⟩
abbrev N_l_deed : List Str := ["_law_source_here", "_law_kinds", "_law_counters", "_law_way", "_law_turns", "_law_brings", "_law_words", "_law_parts", "_law_number"]
def wb_l_deed : WS := (sSeq (sAsg (wCal drawW (aCons (wVar 0) (aCons (wC (.int 6)) aNil)) []) (wgName 3)) (sSeq (sIf (bOr (wVal (w2 (fI fun i j => .bl (decide (i < j))) (wVar 3) (wC (.int 3)))) (bAnd (wVal (w2 fEq (wVar 2) (wLst aNil))) (wVal (w2 (fI fun i j => .bl (decide (i < j))) (wVar 3) (wC (.int 5)))))) (sSeq (sAsg (wCal planW (aCons (wVar 0) (aCons (wVar 1) aNil)) []) (wgTup [4, 5])) (sRet (wTup (aCons (wC (.str "do")) (aCons (wVar 4) (aCons (wVar 5) aNil)))))) sNil) (sSeq (sIf (wVal (w2 fEq (wVar 3) (wC (.int 5)))) (sSeq (sAsg (wCal drawW (aCons (wVar 0) (aCons (wC (.int 6)) aNil)) []) (wgName 3)) (sRet (wIf (wVal (w2 (fI fun i j => .bl (decide (i < j))) (wVar 3) (wC (.int 2)))) (wC (.str "refuse")) (wTup (aCons (wC (.str "do")) (aCons wDNew (aCons (wIf (wVal (w2 (fI fun i j => .bl (decide (i < j))) (wVar 3) (wC (.int 5)))) (wDisp1 (wCal pickW (aCons (wVar 0) (aCons (wVar 1) aNil)) []) (wC (.int 1))) wDNew) aNil))))))) sNil) (sSeq (sAsg (w2 fCat (w2 fCat (wVar 1) (wVar 2)) (wCal wr_l_lots (aCons (wVar 1) aNil) [])) (wgName 6)) (sSeq (sAsg (wCal wr_l_sum (aCons (wVar 0) (aCons (wVar 6) aNil)) []) (wgTup [7, 8])) (sRet (wTup (aCons (w2 fIxL (wLst (aCons (wC (.str "add")) (aCons (wC (.str "set")) aNil))) (w2 (fI fun i j => .int (i - j)) (wVar 3) (wC (.int 3)))) (aCons (wCal pickW (aCons (wVar 0) (aCons (wVar 2) aNil)) []) (aCons (wVar 7) (aCons (wVar 8) aNil)))))))))))
def wr_l_deed : WF := fun ts n k => ts.length = 3 ∧ wb_l_deed (startE N_l_deed ts) n { nx := fun _ m => k .non m, rt := k }
theorem mo_wr_l_deed : MonoF wr_l_deed := monoF (K := ([] : PySem.W.Frag)) (p := none) (N := N_l_deed) (es_seq (es_asg (et_cal mo_drawW (fun _ => .nil) (ea_cons (et_var 0) (ea_cons (et_int 6) ea_nil))) (eg_name 3)) (es_seq (es_if (eb_or (eb_test (et_op o_lt (et_var 3).x (et_int 3).x)) (eb_and (eb_test (et_op o_eq (et_var 2).x (en_lst ea_nil).t.x)) (eb_test (et_op o_lt (et_var 3).x (et_int 5).x)))) (es_seq (es_asg (et_cal mo_planW (fun _ => .nil) (ea_cons (et_var 0) (ea_cons (et_var 1) ea_nil))) (eg_tup2 4 5)) (es_ret (et_tup (ea_cons (et_str "do") (ea_cons (et_var 4) (ea_cons (et_var 5) ea_nil)))))) es_nil) (es_seq (es_if (eb_test (et_op o_eq (et_var 3).x (et_int 5).x)) (es_seq (es_asg (et_cal mo_drawW (fun _ => .nil) (ea_cons (et_var 0) (ea_cons (et_int 6) ea_nil))) (eg_name 3)) (es_ret (et_if (eb_test (et_op o_lt (et_var 3).x (et_int 2).x)) (et_str "refuse") (et_tup (ea_cons (et_str "do") (ea_cons en_dnew.t (ea_cons (en_if (eb_test (et_op o_lt (et_var 3).x (et_int 5).x)) (en_disp1 (et_cal mo_pickW (fun _ => .nil) (ea_cons (et_var 0) (ea_cons (et_var 1) ea_nil))) (et_int 1)) en_dnew).t ea_nil))))))) es_nil) (es_seq (es_asg (en_op o_cat (en_op o_cat (et_var 1).x (et_var 2).x).t.x (et_cal mo_wr_l_lots (fun _ => .nil) (ea_cons (et_var 1) ea_nil)).x).t (eg_name 6)) (es_seq (es_asg (et_cal mo_wr_l_sum (fun _ => .nil) (ea_cons (et_var 0) (ea_cons (et_var 6) ea_nil))) (eg_tup2 7 8)) (es_ret (et_tup (ea_cons (et_op o_ixL (en_lst (ea_cons (et_str "add") (ea_cons (et_str "set") ea_nil))).t.x (et_op o_subI (et_var 3).x (et_int 3).x).x) (ea_cons (et_cal mo_pickW (fun _ => .nil) (ea_cons (et_var 0) (ea_cons (et_var 2) ea_nil))) (ea_cons (et_var 7) (ea_cons (et_var 8) ea_nil)))))))))))
set_option maxHeartbeats 4000000 in
theorem ot_l_deed (F : FnP K "_law_deed" s_l_deed [] f fd) (c__law_draw : Cal P w K mg base 1 "_law_draw" [] (spT K drawW)) (c__law_plan : Cal P w K mg base 4 "_law_plan" [] (spT K planW)) (c__law_pick : Cal P w K mg base 2 "_law_pick" [] (spT K pickW)) (c__law_lots : Cal P w K mg base 1 "_law_lots" [] (spT K wr_l_lots)) (c__law_sum : Cal P w K mg base 4 "_law_sum" [] (spT K wr_l_sum)) : FnOk P w K mg base CX0 5 f fd ["_law_source_here", "_law_kinds", "_law_counters"] (spT K wr_l_deed) := by
  refine Tr.okT F sc_l_deed (fun ts n k h => h.1) fun cdv A outer s H E hr => ?_
  have nd := sc_l_deed.nd
  exact ⟨_, (pss_cons (ps_set (i := 3) nd rfl (by first | exact Or.inl rfl | exact Or.inr rfl) (pe_cal c__law_draw (hr.mono (show 1 ≤ 4 by decide)) (pa_cons (pv 0) (pa_cons pe_int pa_nil)))) (pss_cons (ps_if (PW.pt (pw_or (pt_cmpR op_lt (pv 3) pe_int (nomark _)) (pw_or1 (PW.pt (pw_and (pt_cmpR (op_eqD hr.units) (pv 2) (pe_lst pa_nil) (nomark _)) (pw_and1 (pt_cmpR op_lt (pv 3) pe_int (nomark _)))))))) (pss_cons (ps_asg (pe_cal c__law_plan (hr.mono (show 4 ≤ 4 by decide)) (pa_cons (pv 0) (pa_cons (pv 1) pa_nil))) (pg_tup rfl (pgs_cons (pg_name (i := 4) nd rfl (by first | exact Or.inl rfl | exact Or.inr rfl)) (pgs_cons (pg_name (i := 5) nd rfl (by first | exact Or.inl rfl | exact Or.inr rfl)) pgs_nil))) (by rfl)) (pss_one (ps_ret (pe_tup (pa_cons pe_str (pa_cons (pv 4) (pa_cons (pv 5) pa_nil))))))) pss_nil) (pss_cons (ps_if (pt_cmpR (op_eqD hr.units) (pv 3) pe_int (nomark _)) (pss_cons (ps_set (i := 3) nd rfl (by first | exact Or.inl rfl | exact Or.inr rfl) (pe_cal c__law_draw (hr.mono (show 1 ≤ 4 by decide)) (pa_cons (pv 0) (pa_cons pe_int pa_nil)))) (pss_one (ps_ret (pe_ifExp (pt_cmpR op_lt (pv 3) pe_int (nomark _)) pe_str (pe_tup (pa_cons pe_str (pa_cons pe_dnewK (pa_cons (pe_ifExp (pt_cmpR op_lt (pv 3) pe_int (nomark _)) (pe_disp (pps_cons (pe_cal c__law_pick (hr.mono (show 2 ≤ 4 by decide)) (pa_cons (pv 0) (pa_cons (pv 1) pa_nil))) pe_int pps_nil) rfl rfl (List.cons_ne_nil _ _) (by decide)) pe_dnewK) pa_nil)))))))) pss_nil) (pss_cons (ps_set (i := 6) nd rfl (by first | exact Or.inl rfl | exact Or.inr rfl) (pe_op op_cat (pe_op op_cat (pv 1) (pv 2)) (pe_cal c__law_lots (hr.mono (show 1 ≤ 4 by decide)) (pa_cons (pv 1) pa_nil)))) (pss_cons (ps_asg (pe_cal c__law_sum (hr.mono (show 4 ≤ 4 by decide)) (pa_cons (pv 0) (pa_cons (pv 6) pa_nil))) (pg_tup rfl (pgs_cons (pg_name (i := 7) nd rfl (by first | exact Or.inl rfl | exact Or.inr rfl)) (pgs_cons (pg_name (i := 8) nd rfl (by first | exact Or.inl rfl | exact Or.inr rfl)) pgs_nil))) (by rfl)) (pss_one (ps_ret (pe_tup (pa_cons (pe_ix ix_list (pe_lst (pa_cons pe_str (pa_cons pe_str pa_nil))) (pe_op op_sub (pv 3) pe_int) (fun _ _ => rfl)) (pa_cons (pe_cal c__law_pick (hr.mono (show 2 ≤ 4 by decide)) (pa_cons (pv 0) (pa_cons (pv 2) pa_nil))) (pa_cons (pv 7) (pa_cons (pv 8) pa_nil)))))))))))),
    fun p => ⟨wb_l_deed, fun _ _ _ _ => False, (es_seq (es_asg (et_cal mo_drawW (fun _ => .nil) (ea_cons (et_var 0) (ea_cons (et_int 6) ea_nil))) (eg_name 3)) (es_seq (es_if (eb_or (eb_test (et_op o_lt (et_var 3).x (et_int 3).x)) (eb_and (eb_test (et_op o_eq (et_var 2).x (en_lst ea_nil).t.x)) (eb_test (et_op o_lt (et_var 3).x (et_int 5).x)))) (es_seq (es_asg (et_cal mo_planW (fun _ => .nil) (ea_cons (et_var 0) (ea_cons (et_var 1) ea_nil))) (eg_tup2 4 5)) (es_ret (et_tup (ea_cons (et_str "do") (ea_cons (et_var 4) (ea_cons (et_var 5) ea_nil)))))) es_nil) (es_seq (es_if (eb_test (et_op o_eq (et_var 3).x (et_int 5).x)) (es_seq (es_asg (et_cal mo_drawW (fun _ => .nil) (ea_cons (et_var 0) (ea_cons (et_int 6) ea_nil))) (eg_name 3)) (es_ret (et_if (eb_test (et_op o_lt (et_var 3).x (et_int 2).x)) (et_str "refuse") (et_tup (ea_cons (et_str "do") (ea_cons en_dnew.t (ea_cons (en_if (eb_test (et_op o_lt (et_var 3).x (et_int 5).x)) (en_disp1 (et_cal mo_pickW (fun _ => .nil) (ea_cons (et_var 0) (ea_cons (et_var 1) ea_nil))) (et_int 1)) en_dnew).t ea_nil))))))) es_nil) (es_seq (es_asg (en_op o_cat (en_op o_cat (et_var 1).x (et_var 2).x).t.x (et_cal mo_wr_l_lots (fun _ => .nil) (ea_cons (et_var 1) ea_nil)).x).t (eg_name 6)) (es_seq (es_asg (et_cal mo_wr_l_sum (fun _ => .nil) (ea_cons (et_var 0) (ea_cons (et_var 6) ea_nil))) (eg_tup2 7 8)) (es_ret (et_tup (ea_cons (et_op o_ixL (en_lst (ea_cons (et_str "add") (ea_cons (et_str "set") ea_nil))).t.x (et_op o_subI (et_var 3).x (et_int 3).x).x) (ea_cons (et_cal mo_pickW (fun _ => .nil) (ea_cons (et_var 0) (ea_cons (et_var 2) ea_nil))) (ea_cons (et_var 7) (ea_cons (et_var 8) ea_nil))))))))))), fun ts n k h => h.2⟩⟩
abbrev N_l_hook : List Str := ["_law_source_here", "_law_name_here", "_law_kinds", "_law_counters", "_law_tests", "_law_k", "_law_low", "_law_most", "_law_deeds"]
def wb_l_hook : WS := (sSeq (sOwn (wLst aNil) 4) (sSeq (sFor (iRngT (aCons (wCal drawW (aCons (wVar 0) (aCons (wC (.int 4)) aNil)) []) aNil)) (wgName 5) (sSeq (sAsg (w2 fIxL (wLst (aCons (wC (.int 0)) (aCons (wC (.int 0)) (aCons (wC (.int 1)) (aCons (wC (.int 1)) (aCons (wC (.int 2)) (aCons (wC (.int 3)) aNil))))))) (wCal drawW (aCons (wVar 0) (aCons (wC (.int 6)) aNil)) [])) (wgName 6)) (sSeq (sAsg (wIf (wVal (w2 fEq (wCal drawW (aCons (wVar 0) (aCons (wC (.int 2)) aNil)) []) (wC (.int 0)))) (wC .non) (wCal drawW (aCons (wVar 0) (aCons (wC (.int 4)) aNil)) [])) (wgName 7)) (sApp 4 (wTup (aCons (wSlL (wCal someW (aCons (wVar 0) (aCons (w2 fCat (wVar 2) (wCal wr_l_lots (aCons (wVar 2) aNil) [])) aNil)) []) wNoPart (wPart (wC (.int 4)))) (aCons (wVar 6) (aCons (wVar 7) aNil)))))))) (sFrz 4 (sSeq (sAsg (wLc (iRngT (aCons (w2 fIxL (wLst (aCons (wC (.int 0)) (aCons (wC (.int 1)) (aCons (wC (.int 1)) (aCons (wC (.int 2)) (aCons (wC (.int 2)) (aCons (wC (.int 4)) aNil))))))) (wCal drawW (aCons (wVar 0) (aCons (wC (.int 6)) aNil)) [])) aNil)) (wgName 5) bYes (wCal wr_l_deed (aCons (wVar 0) (aCons (wVar 2) (aCons (wVar 3) aNil))) []) [5]) (wgName 8)) (sRet (wTup (aCons (wVar 1) (aCons (wCal subsetW (aCons (wVar 0) (aCons (wVar 2) aNil)) []) (aCons (wCal subsetW (aCons (wVar 0) (aCons (wVar 2) aNil)) []) (aCons (wVar 4) (aCons (wVar 8) aNil)))))))))))
def wr_l_hook : WF := fun ts n k => ts.length = 4 ∧ wb_l_hook (startE N_l_hook ts) n { nx := fun _ m => k .non m, rt := k }
theorem mo_wr_l_hook : MonoF wr_l_hook := monoF (K := ([] : PySem.W.Frag)) (p := none) (N := N_l_hook) (es_seq (es_own 4 (en_lst ea_nil)) (es_seq (es_for (eis_range1 (ea_cons (et_cal mo_drawW (fun _ => .nil) (ea_cons (et_var 0) (ea_cons (et_int 4) ea_nil))) ea_nil)) (eg_name 5) (es_seq (es_asg (et_op o_ixL (en_lst (ea_cons (et_int 0) (ea_cons (et_int 0) (ea_cons (et_int 1) (ea_cons (et_int 1) (ea_cons (et_int 2) (ea_cons (et_int 3) ea_nil))))))).t.x (et_cal mo_drawW (fun _ => .nil) (ea_cons (et_var 0) (ea_cons (et_int 6) ea_nil))).x) (eg_name 6)) (es_seq (es_asg (et_if (eb_test (et_op o_eq (et_cal mo_drawW (fun _ => .nil) (ea_cons (et_var 0) (ea_cons (et_int 2) ea_nil))).x (et_int 0).x)) et_non (et_cal mo_drawW (fun _ => .nil) (ea_cons (et_var 0) (ea_cons (et_int 4) ea_nil)))) (eg_name 7)) (es_app 4 (et_tup (ea_cons (en_slL (et_cal mo_someW (fun _ => .nil) (ea_cons (et_var 0) (ea_cons (en_op o_cat (et_var 2).x (et_cal mo_wr_l_lots (fun _ => .nil) (ea_cons (et_var 2) ea_nil)).x).t ea_nil))).x eo_none (eo_some (et_int 4))).t (ea_cons (et_var 6) (ea_cons (et_var 7) ea_nil)))))))) (es_frz 4 (es_seq (es_asg (en_lc (ei_range1 (ea_cons (et_op o_ixL (en_lst (ea_cons (et_int 0) (ea_cons (et_int 1) (ea_cons (et_int 1) (ea_cons (et_int 2) (ea_cons (et_int 2) (ea_cons (et_int 4) ea_nil))))))).t.x (et_cal mo_drawW (fun _ => .nil) (ea_cons (et_var 0) (ea_cons (et_int 6) ea_nil))).x) ea_nil)) (eg_name 5) eb_yes (et_cal mo_wr_l_deed (fun _ => .nil) (ea_cons (et_var 0) (ea_cons (et_var 2) (ea_cons (et_var 3) ea_nil))))).t (eg_name 8)) (es_ret (et_tup (ea_cons (et_var 1) (ea_cons (et_cal mo_subsetW (fun _ => .nil) (ea_cons (et_var 0) (ea_cons (et_var 2) ea_nil))) (ea_cons (et_cal mo_subsetW (fun _ => .nil) (ea_cons (et_var 0) (ea_cons (et_var 2) ea_nil))) (ea_cons (et_var 4) (ea_cons (et_var 8) ea_nil)))))))))))
set_option maxHeartbeats 4000000 in
theorem ot_l_hook (F : FnP K "_law_hook" s_l_hook [] f fd) (c__law_draw : Cal P w K mg base 1 "_law_draw" [] (spT K drawW)) (c__law_lots : Cal P w K mg base 1 "_law_lots" [] (spT K wr_l_lots)) (c__law_some : Cal P w K mg base 3 "_law_some" [] (spT K someW)) (c__law_deed : Cal P w K mg base 5 "_law_deed" [] (spT K wr_l_deed)) (c__law_subset : Cal P w K mg base 2 "_law_subset" [] (spT K subsetW)) (m_range : mg "range" = none) : FnOk P w K mg base CX0 6 f fd ["_law_source_here", "_law_name_here", "_law_kinds", "_law_counters"] (spT K wr_l_hook) := by
  refine Tr.okT F sc_l_hook (fun ts n k h => h.1) fun cdv A outer s H E hr => ?_
  have nd := sc_l_hook.nd
  exact ⟨_, (pss_cons (ps_set (i := 4) nd rfl (by first | exact Or.inl rfl | exact Or.inr rfl) (pe_lst pa_nil)) (pss_cons (ps_for PassesOwn.never rfl (pi_range1 rfl m_range (pa_cons (pe_cal c__law_draw (hr.mono (show 1 ≤ 5 by decide)) (pa_cons (pv 0) (pa_cons pe_int pa_nil))) pa_nil)) (pg_name (i := 5) nd rfl (by first | exact Or.inl rfl | exact Or.inr rfl)) (pss_cons (ps_set (i := 6) nd rfl (by first | exact Or.inl rfl | exact Or.inr rfl) (pe_ix ix_list (pe_lst (pa_cons pe_int (pa_cons pe_int (pa_cons pe_int (pa_cons pe_int (pa_cons pe_int (pa_cons pe_int pa_nil))))))) (pe_cal c__law_draw (hr.mono (show 1 ≤ 5 by decide)) (pa_cons (pv 0) (pa_cons pe_int pa_nil))) (fun _ _ => rfl))) (pss_cons (ps_set (i := 7) nd rfl (by first | exact Or.inl rfl | exact Or.inr rfl) (pe_ifExp (pt_cmpR (op_eqD hr.units) (pe_cal c__law_draw (hr.mono (show 1 ≤ 5 by decide)) (pa_cons (pv 0) (pa_cons pe_int pa_nil))) pe_int (nomark _)) pe_non (pe_cal c__law_draw (hr.mono (show 1 ≤ 5 by decide)) (pa_cons (pv 0) (pa_cons pe_int pa_nil))))) (pss_one (ps_expr (pe_bm PySem.F.plainAttrs_list PySem.F.slot_list_append PySem.F.type_list_append mt_append (pv 4) (pa_cons (pe_tup (pa_cons (pe_slice sl_list (pe_cal c__law_some (hr.mono (show 3 ≤ 5 by decide)) (pa_cons (pv 0) (pa_cons (pe_op op_cat (pv 2) (pe_cal c__law_lots (hr.mono (show 1 ≤ 5 by decide)) (pa_cons (pv 2) pa_nil))) pa_nil))) po_none (po_some pe_int)) (pa_cons (pv 6) (pa_cons (pv 7) pa_nil)))) pa_nil))))))) (pss_cons (ps_setLc (i := 8) (own := [("_law_k", 5)]) (g := (gName 5)) (tt := tYes) (te := (tCall (spT K wr_l_deed) [] L2.E0 (tCons (tVar 0) (tCons (tVar 2) (tCons (tVar 3) tNil))))) rfl nd rfl rfl (sw_true rfl rfl rfl (by decide +kernel)) (pi_range1 rfl m_range (pa_cons (pe_ix ix_list (pe_lst (pa_cons pe_int (pa_cons pe_int (pa_cons pe_int (pa_cons pe_int (pa_cons pe_int (pa_cons pe_int pa_nil))))))) (pe_cal c__law_draw (hr.mono (show 1 ≤ 5 by decide)) (pa_cons (pv 0) (pa_cons pe_int pa_nil))) (fun _ _ => rfl)) pa_nil)) (blkOk_by (N := N_l_hook) (sc := defScope s_l_hook) (by decide +kernel)) (fun _ _ _ _ _ => (pg_name (i := 5) nd rfl (by first | exact Or.inl rfl | exact Or.inr rfl))) (fun _ _ _ _ _ => pts_nil) (fun _ _ _ _ _ => (pe_cal c__law_deed (hr.mono (show 5 ≤ 5 by decide)) (pa_cons (pv 0) (pa_cons (pv 2) (pa_cons (pv 3) pa_nil)))))) (pss_one (ps_ret (pe_tup (pa_cons (pv 1) (pa_cons (pe_cal c__law_subset (hr.mono (show 2 ≤ 5 by decide)) (pa_cons (pv 0) (pa_cons (pv 2) pa_nil))) (pa_cons (pe_cal c__law_subset (hr.mono (show 2 ≤ 5 by decide)) (pa_cons (pv 0) (pa_cons (pv 2) pa_nil))) (pa_cons (pv 4) (pa_cons (pv 8) pa_nil))))))))))),
    fun p => ⟨wb_l_hook, fun _ _ _ _ => False, (es_seq (es_own 4 (en_lst ea_nil)) (es_seq (es_for (eis_range1 (ea_cons (et_cal mo_drawW (fun _ => .nil) (ea_cons (et_var 0) (ea_cons (et_int 4) ea_nil))) ea_nil)) (eg_name 5) (es_seq (es_asg (et_op o_ixL (en_lst (ea_cons (et_int 0) (ea_cons (et_int 0) (ea_cons (et_int 1) (ea_cons (et_int 1) (ea_cons (et_int 2) (ea_cons (et_int 3) ea_nil))))))).t.x (et_cal mo_drawW (fun _ => .nil) (ea_cons (et_var 0) (ea_cons (et_int 6) ea_nil))).x) (eg_name 6)) (es_seq (es_asg (et_if (eb_test (et_op o_eq (et_cal mo_drawW (fun _ => .nil) (ea_cons (et_var 0) (ea_cons (et_int 2) ea_nil))).x (et_int 0).x)) et_non (et_cal mo_drawW (fun _ => .nil) (ea_cons (et_var 0) (ea_cons (et_int 4) ea_nil)))) (eg_name 7)) (es_app 4 (et_tup (ea_cons (en_slL (et_cal mo_someW (fun _ => .nil) (ea_cons (et_var 0) (ea_cons (en_op o_cat (et_var 2).x (et_cal mo_wr_l_lots (fun _ => .nil) (ea_cons (et_var 2) ea_nil)).x).t ea_nil))).x eo_none (eo_some (et_int 4))).t (ea_cons (et_var 6) (ea_cons (et_var 7) ea_nil)))))))) (es_frz 4 (es_seq (es_asg (en_lc (ei_range1 (ea_cons (et_op o_ixL (en_lst (ea_cons (et_int 0) (ea_cons (et_int 1) (ea_cons (et_int 1) (ea_cons (et_int 2) (ea_cons (et_int 2) (ea_cons (et_int 4) ea_nil))))))).t.x (et_cal mo_drawW (fun _ => .nil) (ea_cons (et_var 0) (ea_cons (et_int 6) ea_nil))).x) ea_nil)) (eg_name 5) eb_yes (et_cal mo_wr_l_deed (fun _ => .nil) (ea_cons (et_var 0) (ea_cons (et_var 2) (ea_cons (et_var 3) ea_nil))))).t (eg_name 8)) (es_ret (et_tup (ea_cons (et_var 1) (ea_cons (et_cal mo_subsetW (fun _ => .nil) (ea_cons (et_var 0) (ea_cons (et_var 2) ea_nil))) (ea_cons (et_cal mo_subsetW (fun _ => .nil) (ea_cons (et_var 0) (ea_cons (et_var 2) ea_nil))) (ea_cons (et_var 4) (ea_cons (et_var 8) ea_nil))))))))))), fun ts n k h => h.2⟩⟩
abbrev N_l_made_deed : List Str := ["_law_deed_here"]
def wb_l_made_deed (C_Form : Addr) (C_Statement : Addr) : WS := (sSeq (sIf (wVal (w2 fEqTS (wVar 0) (wC (.str "refuse")))) (sRet (wVar 0)) sNil) (sSeq (sIf (wVal (w2 fEq (w2 fIxT (wVar 0) (wC (.int 0))) (wC (.str "do")))) (sRet (wStm C_Statement (w2 fIxT (wVar 0) (wC (.int 1))) (w2 fIxT (wVar 0) (wC (.int 2))))) sNil) (sRet (wTup (aCons (w2 fIxT (wVar 0) (wC (.int 0))) (aCons (w2 fIxT (wVar 0) (wC (.int 1))) (aCons (wForm C_Form (w2 fIxT (wVar 0) (wC (.int 2))) (w2 fIxT (wVar 0) (wC (.int 3)))) aNil)))))))
def wr_l_made_deed (C_Form : Addr) (C_Statement : Addr) : WF := fun ts n k => ts.length = 1 ∧ (wb_l_made_deed C_Form C_Statement) (startE N_l_made_deed ts) n { nx := fun _ m => k .non m, rt := k }
theorem mo_wr_l_made_deed {C_Form : Addr} {C_Statement : Addr} : MonoF (wr_l_made_deed C_Form C_Statement) := monoF (K := ([] : PySem.W.Frag)) (p := none) (N := N_l_made_deed) (es_seq (es_if (eb_test (et_op o_eqTS (et_var 0).x (et_str "refuse").x)) (es_ret (et_var 0)) es_nil) (es_seq (es_if (eb_test (et_op o_eq (et_op o_ixT (et_var 0).x (et_int 0).x).x (et_str "do").x)) (es_ret (et_stm (et_op o_ixT (et_var 0).x (et_int 1).x) (et_op o_ixT (et_var 0).x (et_int 2).x))) es_nil) (es_ret (et_tup (ea_cons (et_op o_ixT (et_var 0).x (et_int 0).x) (ea_cons (et_op o_ixT (et_var 0).x (et_int 1).x) (ea_cons (et_form2 (et_op o_ixT (et_var 0).x (et_int 2).x) (et_op o_ixT (et_var 0).x (et_int 3).x)) ea_nil)))))))
set_option maxHeartbeats 4000000 in
theorem ot_l_made_deed {C_Form : Addr} {C_Statement : Addr} (F : FnP K "_law_made_deed" s_l_made_deed [] f fd) (c_Form0 : MkF P w K mg base "Form" C_Form 5 [] (sp_finit K C_Form)) (c_Statement0 : MkF P w K mg base "Statement" C_Statement 4 [] (sp_sinit K C_Statement)) : FnOk P w K mg base CX0 7 f fd ["_law_deed_here"] (spT K (wr_l_made_deed C_Form C_Statement)) := by
  refine Tr.okT F sc_l_made_deed (fun ts n k h => h.1) fun cdv A outer s H E hr => ?_
  have nd := sc_l_made_deed.nd
  exact ⟨_, (pss_cons (ps_if (pt_cmpR (op_eqTS hr.units) (pv 0) pe_str (nomark _)) (pss_one (ps_ret (pv 0))) pss_nil) (pss_cons (ps_if (pt_cmpR (op_eqD hr.units) (pe_ix ix_tup (pv 0) pe_int (fun _ _ => rfl)) pe_str (nomark _)) (pss_one (ps_ret (pe_mk c_Statement0 (hr.mono (show 5 ≤ 6 by decide)) (pa_cons (pe_ix ix_tup (pv 0) pe_int (fun _ _ => rfl)) (pa_cons (pe_ix ix_tup (pv 0) pe_int (fun _ _ => rfl)) pa_nil))))) pss_nil) (pss_one (ps_ret (pe_tup (pa_cons (pe_ix ix_tup (pv 0) pe_int (fun _ _ => rfl)) (pa_cons (pe_ix ix_tup (pv 0) pe_int (fun _ _ => rfl)) (pa_cons (pe_mk c_Form0 (hr.mono (show 6 ≤ 6 by decide)) (pa_cons (pe_ix ix_tup (pv 0) pe_int (fun _ _ => rfl)) (pa_cons (pe_ix ix_tup (pv 0) pe_int (fun _ _ => rfl)) pa_nil))) pa_nil)))))))),
    fun p => ⟨(wb_l_made_deed C_Form C_Statement), fun _ _ _ _ => False, (es_seq (es_if (eb_test (et_op o_eqTS (et_var 0).x (et_str "refuse").x)) (es_ret (et_var 0)) es_nil) (es_seq (es_if (eb_test (et_op o_eq (et_op o_ixT (et_var 0).x (et_int 0).x).x (et_str "do").x)) (es_ret (et_stm (et_op o_ixT (et_var 0).x (et_int 1).x) (et_op o_ixT (et_var 0).x (et_int 2).x))) es_nil) (es_ret (et_tup (ea_cons (et_op o_ixT (et_var 0).x (et_int 0).x) (ea_cons (et_op o_ixT (et_var 0).x (et_int 1).x) (ea_cons (et_form2 (et_op o_ixT (et_var 0).x (et_int 2).x) (et_op o_ixT (et_var 0).x (et_int 3).x)) ea_nil))))))), fun ts n k h => h.2⟩⟩
abbrev N_l_is_name : List Str := ["_law_value", "_law_sign"]
def wb_l_is_name (Cs : List Addr) : WS := (sSeq (sIf (bOr (bNot (wVal (wIsi Cs [(.type "str")] (wVar 0)))) (bNot (wVal (wChain (fI fun i j => .bl (decide (i ≤ j))) (fI fun i j => .bl (decide (i ≤ j))) (wC (.int 1)) (wCl fLen (aCons (wVar 0) aNil)) (wC (.int 8)))))) (sRet (wC (.bl false))) sNil) (sRet (wCl fAll (aCons (wLc (iStrT (wVar 0)) (wgName 1) bYes (w2 (fInS false) (wVar 1) (wC (.str "abcdefghijklmnopqrstuvwxyz"))) [1]) aNil))))
def wr_l_is_name (Cs : List Addr) : WF := fun ts n k => ts.length = 1 ∧ (wb_l_is_name Cs) (startE N_l_is_name ts) n { nx := fun _ m => k .non m, rt := k }
theorem mo_wr_l_is_name {Cs : List Addr} : MonoF (wr_l_is_name Cs) := monoF (K := ([] : PySem.W.Frag)) (p := none) (N := N_l_is_name) (es_seq (es_if (eb_or (eb_not (eb_val (et_isiM (us := [(.type "str")]) (et_var 0).x))) (eb_not (eb_test (et_chain o_le o_le (et_int 1).x (et_cl c_len (eax_cons (et_var 0).x eax_nil)).x (et_int 8).x)))) (es_ret (et_bl false)) es_nil) (es_ret (et_cl c_all (eax_cons (en_lc (ei_str (et_var 0)) (eg_name 1) eb_yes (et_op o_inS (et_var 1).x (et_str "abcdefghijklmnopqrstuvwxyz").x)).t.x eax_nil))))
set_option maxHeartbeats 4000000 in
theorem ot_l_is_name {Cs : List Addr} (F : FnP K "_law_is_name" s_l_is_name [] f fd) (m_all : mg "all" = none) (m_isinstance : mg "isinstance" = none) (m_len : mg "len" = none) (m_str : mg "str" = none) (OT : OwnTy K Cs) : FnOk P w K mg base CX0 1 f fd ["_law_value"] (spT K (wr_l_is_name Cs)) := by
  refine Tr.okT F sc_l_is_name (fun ts n k h => h.1) fun cdv A outer s H E hr => ?_
  have nd := sc_l_is_name.nd
  exact ⟨_, (pss_cons (ps_if (PW.pt (pw_or (pt_not (pt_val (pe_callB call_isi (by rfl) m_isinstance PyProof.Rows.Boot.«isinstance» (pa_cons (pv 0) (pa_cons (pe_bltn (v := .ty "str") (by rfl) m_str PyProof.Rows.Boot.«str» rfl) pa_nil))))) (pw_or1 (pt_not (pt_chain op_le op_le pe_int (pe_callB (r := (Tr.rLen K)) call_lenT (by rfl) m_len boot_len (pa_cons (pv 0) pa_nil)) pe_int))))) (pss_one (ps_ret pe_bl)) pss_nil) (pss_one (ps_ret (pe_callB (r := (rAll K)) (cr_all rfl) (by rfl) m_all (by decide +kernel) (pa_cons (pe_lc (own := [("_law_sign", 1)]) (g := (gName 1)) (tt := tYes) (te := (tOp rInS (tVar 1) (tC (.str "abcdefghijklmnopqrstuvwxyz")))) rfl nd (pi_str (pv 0)) (blkOk_by (N := N_l_is_name) (sc := defScope s_l_is_name) (by decide +kernel)) (fun _ _ _ _ _ => (pg_name (i := 1) nd rfl (by first | exact Or.inl rfl | exact Or.inr rfl))) (fun _ _ _ _ _ => pts_nil) (fun _ _ _ _ _ => (pe_cmpR op_inS (pv 1) pe_str (by rfl)))) pa_nil))))),
    fun p => ⟨(wb_l_is_name Cs), fun _ _ _ _ => False, (es_seq (es_if (eb_or (eb_not (eb_val (et_isi (u := (.type "str")) OT (by first | rfl | exact decide_eq_true (by assumption)) (et_var 0).x))) (eb_not (eb_test (et_chain o_le o_le (et_int 1).x (et_cl c_len (eax_cons (et_var 0).x eax_nil)).x (et_int 8).x)))) (es_ret (et_bl false)) es_nil) (es_ret (et_cl c_all (eax_cons (en_lc (ei_str (et_var 0)) (eg_name 1) eb_yes (et_op o_inS (et_var 1).x (et_str "abcdefghijklmnopqrstuvwxyz").x)).t.x eax_nil)))), fun ts n k h => h.2⟩⟩
abbrev N_l_are_names : List Str := ["_law_value", "_law_one", "_law_k"]
def wb_l_are_names (Cs : List Addr) : WS := (sSeq (sIf (bOr (bNot (wVal (wIsi Cs [(.type "list"), (.type "tuple")] (wVar 0)))) (bNot (wVal (wCl fAll (aCons (wLc (iSeqT (wVar 0)) (wgName 1) bYes (wCal (wr_l_is_name Cs) (aCons (wVar 1) aNil) []) [1]) aNil))))) (sRet (wC (.bl false))) sNil) (sRet (wCl fAll (aCons (wLc (iEnumT (wVar 0)) (wgTup [2, 1]) bYes (w2 (fIn true) (wVar 1) (wSlQ (wVar 0) wNoPart (wPart (wVar 2)))) [2, 1]) aNil))))
def wr_l_are_names (Cs : List Addr) : WF := fun ts n k => ts.length = 1 ∧ (wb_l_are_names Cs) (startE N_l_are_names ts) n { nx := fun _ m => k .non m, rt := k }
theorem mo_wr_l_are_names {Cs : List Addr} : MonoF (wr_l_are_names Cs) := monoF (K := ([] : PySem.W.Frag)) (p := none) (N := N_l_are_names) (es_seq (es_if (eb_or (eb_not (eb_val (et_isiM (us := [(.type "list"), (.type "tuple")]) (et_var 0).x))) (eb_not (eb_val (et_cl c_all (eax_cons (en_lc (eis_seq (et_var 0)).ei (eg_name 1) eb_yes (et_cal mo_wr_l_is_name (fun _ => .nil) (ea_cons (et_var 1) ea_nil))).t.x eax_nil))))) (es_ret (et_bl false)) es_nil) (es_ret (et_cl c_all (eax_cons (en_lc (ei_enum (et_var 0)) (eg_tup2 2 1) eb_yes (et_op (o_in true) (et_var 1).x (et_slQ (et_var 0).x eo_none (eo_some (et_var 2))).x)).t.x eax_nil))))
set_option maxHeartbeats 4000000 in
theorem ot_l_are_names {Cs : List Addr} (F : FnP K "_law_are_names" s_l_are_names [] f fd) (c__law_is_name : Cal P w K mg base 1 "_law_is_name" [] (spT K (wr_l_is_name Cs))) (m_all : mg "all" = none) (m_enumerate : mg "enumerate" = none) (m_isinstance : mg "isinstance" = none) (m_list : mg "list" = none) (m_tuple : mg "tuple" = none) (OT : OwnTy K Cs) : FnOk P w K mg base CX0 2 f fd ["_law_value"] (spT K (wr_l_are_names Cs)) := by
  refine Tr.okT F sc_l_are_names (fun ts n k h => h.1) fun cdv A outer s H E hr => ?_
  have nd := sc_l_are_names.nd
  exact ⟨_, (pss_cons (ps_if (PW.pt (pw_or (pt_not (pt_val (pe_callB call_isiT (by rfl) m_isinstance PyProof.Rows.Boot.«isinstance» (pa_cons (pv 0) (pa_cons (pe_tup (pa_cons (pe_bltn (v := .ty "list") (by rfl) m_list PyProof.Rows.Boot.«list» rfl) (pa_cons (pe_bltn (v := .ty "tuple") (by rfl) m_tuple PyProof.Rows.Boot.«tuple» rfl) pa_nil))) pa_nil))))) (pw_or1 (pt_not (pt_val (pe_callB (r := (rAll K)) (cr_all rfl) (by rfl) m_all (by decide +kernel) (pa_cons (pe_lc (own := [("_law_one", 1)]) (g := (gName 1)) (tt := tYes) (te := (tCall (spT K (wr_l_is_name Cs)) [] L2.E0 (tCons (tVar 1) tNil))) rfl nd (pi_seq (pv 0)) (blkOk_by (N := N_l_are_names) (sc := defScope s_l_are_names) (by decide +kernel)) (fun _ _ _ _ _ => (pg_name (i := 1) nd rfl (by first | exact Or.inl rfl | exact Or.inr rfl))) (fun _ _ _ _ _ => pts_nil) (fun _ _ _ _ _ => (pe_cal c__law_is_name (hr.mono (show 1 ≤ 1 by decide)) (pa_cons (pv 1) pa_nil)))) pa_nil))))))) (pss_one (ps_ret pe_bl)) pss_nil) (pss_one (ps_ret (pe_callB (r := (rAll K)) (cr_all rfl) (by rfl) m_all (by decide +kernel) (pa_cons (pe_lc (own := [("_law_k", 2), ("_law_one", 1)]) (g := (gTup K 2 (gCons (gName 2) (gCons (gName 1) gNil)))) (tt := tYes) (te := (tOp (rIn K true) (tVar 1) (tSl (rSlQ K) (tVar 0) (fun _ H Q => Q none H) (tPart (tVar 2))))) rfl nd (pi_enumQ rfl m_enumerate (pa_cons (pv 0) pa_nil)) (blkOk_by (N := N_l_are_names) (sc := defScope s_l_are_names) (by decide +kernel)) (fun _ _ _ _ _ => (pg_tup rfl (pgs_cons (pg_name (i := 2) nd rfl (by first | exact Or.inl rfl | exact Or.inr rfl)) (pgs_cons (pg_name (i := 1) nd rfl (by first | exact Or.inl rfl | exact Or.inr rfl)) pgs_nil)))) (fun _ _ _ _ _ => pts_nil) (fun _ _ _ _ _ => (pe_cmpR op_notIn_seq (pv 1) (pe_slice sl_seqQ (pv 0) po_none (po_some (pv 2))) (by rfl)))) pa_nil))))),
    fun p => ⟨(wb_l_are_names Cs), fun _ _ _ _ => False, (es_seq (es_if (eb_or (eb_not (eb_val (et_isi2 (u := (.type "list")) (u' := (.type "tuple")) OT (by first | rfl | exact decide_eq_true (by assumption)) (by first | rfl | exact decide_eq_true (by assumption)) (et_var 0).x))) (eb_not (eb_val (et_cl c_all (eax_cons (en_lc (eis_seq (et_var 0)).ei (eg_name 1) eb_yes (et_cal mo_wr_l_is_name (fun _ => .nil) (ea_cons (et_var 1) ea_nil))).t.x eax_nil))))) (es_ret (et_bl false)) es_nil) (es_ret (et_cl c_all (eax_cons (en_lc (ei_enum (et_var 0)) (eg_tup2 2 1) eb_yes (et_op (o_in true) (et_var 1).x (et_slQ (et_var 0).x eo_none (eo_some (et_var 2))).x)).t.x eax_nil)))), fun ts n k h => h.2⟩⟩
abbrev N_l_is_word : List Str := ["_law_value"]
def wb_l_is_word (Cs : List Addr) : WS := (sSeq (sIf (bNot (wVal (wIsi Cs [(.type "str")] (wVar 0)))) (sRet (wC (.bl false))) sNil) (sRet (wCal (wr_l_is_name Cs) (aCons (wIf (wVal (w2 (fIn false) (wSlS (wVar 0) wNoPart (wPart (wC (.int 4)))) (wTup (aCons (wC (.str "old.")) (aCons (wC (.str "new.")) aNil))))) (wSlS (wVar 0) (wPart (wC (.int 4))) wNoPart) (wVar 0)) aNil) [])))
def wr_l_is_word (Cs : List Addr) : WF := fun ts n k => ts.length = 1 ∧ (wb_l_is_word Cs) (startE N_l_is_word ts) n { nx := fun _ m => k .non m, rt := k }
theorem mo_wr_l_is_word {Cs : List Addr} : MonoF (wr_l_is_word Cs) := monoF (K := ([] : PySem.W.Frag)) (p := none) (N := N_l_is_word) (es_seq (es_if (eb_not (eb_val (et_isiM (us := [(.type "str")]) (et_var 0).x))) (es_ret (et_bl false)) es_nil) (es_ret (et_cal mo_wr_l_is_name (fun _ => .nil) (ea_cons (et_if (eb_test (et_op (o_in false) (et_slS (et_var 0).x eo_none (eo_some (et_int 4))).x (et_tup (ea_cons (et_str "old.") (ea_cons (et_str "new.") ea_nil))).x)) (et_slS (et_var 0).x (eo_some (et_int 4)) eo_none) (et_var 0)) ea_nil))))
set_option maxHeartbeats 4000000 in
theorem ot_l_is_word {Cs : List Addr} (F : FnP K "_law_is_word" s_l_is_word [] f fd) (c__law_is_name : Cal P w K mg base 1 "_law_is_name" [] (spT K (wr_l_is_name Cs))) (m_isinstance : mg "isinstance" = none) (m_str : mg "str" = none) (OT : OwnTy K Cs) : FnOk P w K mg base CX0 2 f fd ["_law_value"] (spT K (wr_l_is_word Cs)) := by
  refine Tr.okT F sc_l_is_word (fun ts n k h => h.1) fun cdv A outer s H E hr => ?_
  have nd := sc_l_is_word.nd
  exact ⟨_, (pss_cons (ps_if (pt_not (pt_val (pe_callB call_isi (by rfl) m_isinstance PyProof.Rows.Boot.«isinstance» (pa_cons (pv 0) (pa_cons (pe_bltn (v := .ty "str") (by rfl) m_str PyProof.Rows.Boot.«str» rfl) pa_nil))))) (pss_one (ps_ret pe_bl)) pss_nil) (pss_one (ps_ret (pe_cal c__law_is_name (hr.mono (show 1 ≤ 1 by decide)) (pa_cons (pe_ifExp (pt_cmpR op_in_seq (pe_slice sl_str (pv 0) po_none (po_some pe_int)) (pe_tup (pa_cons pe_str (pa_cons pe_str pa_nil))) (by rfl)) (pe_slice sl_str (pv 0) (po_some pe_int) po_none) (pv 0)) pa_nil))))),
    fun p => ⟨(wb_l_is_word Cs), fun _ _ _ _ => False, (es_seq (es_if (eb_not (eb_val (et_isi (u := (.type "str")) OT (by first | rfl | exact decide_eq_true (by assumption)) (et_var 0).x))) (es_ret (et_bl false)) es_nil) (es_ret (et_cal mo_wr_l_is_name (fun _ => .nil) (ea_cons (et_if (eb_test (et_op (o_in false) (et_slS (et_var 0).x eo_none (eo_some (et_int 4))).x (et_tup (ea_cons (et_str "old.") (ea_cons (et_str "new.") ea_nil))).x)) (et_slS (et_var 0).x (eo_some (et_int 4)) eo_none) (et_var 0)) ea_nil)))), fun ts n k h => h.2⟩⟩
abbrev N_l_is_bound : List Str := ["_law_value"]
def wb_l_is_bound (Cs : List Addr) : WS := (sRet (wAndV (wIsi Cs [(.type "int")] (wVar 0)) (wAndV (wNotV (wIsi Cs [(.type "bool")] (wVar 0))) (wChain (fI fun i j => .bl (decide (i ≤ j))) (fI fun i j => .bl (decide (i ≤ j))) (wC (.int 0)) (wVar 0) (wC (.int 3))))))
def wr_l_is_bound (Cs : List Addr) : WF := fun ts n k => ts.length = 1 ∧ (wb_l_is_bound Cs) (startE N_l_is_bound ts) n { nx := fun _ m => k .non m, rt := k }
theorem mo_wr_l_is_bound {Cs : List Addr} : MonoF (wr_l_is_bound Cs) := monoF (K := ([] : PySem.W.Frag)) (p := none) (N := N_l_is_bound) (es_ret (et_andV (et_isiM (us := [(.type "int")]) (et_var 0).x) (et_andV (et_notV (et_isiM (us := [(.type "bool")]) (et_var 0).x)) (et_chain o_le o_le (et_int 0).x (et_var 0).x (et_int 3).x))))
set_option maxHeartbeats 4000000 in
theorem ot_l_is_bound {Cs : List Addr} (F : FnP K "_law_is_bound" s_l_is_bound [] f fd) (m_bool : mg "bool" = none) (m_int : mg "int" = none) (m_isinstance : mg "isinstance" = none) (OT : OwnTy K Cs) : FnOk P w K mg base CX0 1 f fd ["_law_value"] (spT K (wr_l_is_bound Cs)) := by
  refine Tr.okT F sc_l_is_bound (fun ts n k h => h.1) fun cdv A outer s H E hr => ?_
  have nd := sc_l_is_bound.nd
  exact ⟨_, (pss_one (ps_ret (pe_and (pe_callB call_isi (by rfl) m_isinstance PyProof.Rows.Boot.«isinstance» (pa_cons (pv 0) (pa_cons (pe_bltn (v := .ty "int") (by rfl) m_int (by decide +kernel) rfl) pa_nil))) (pe_and (pe_not (pe_callB call_isi (by rfl) m_isinstance PyProof.Rows.Boot.«isinstance» (pa_cons (pv 0) (pa_cons (pe_bltn (v := .ty "bool") (by rfl) m_bool (by decide +kernel) rfl) pa_nil)))) (pe_one (pe_chain op_le op_le pe_int (pv 0) pe_int)))))),
    fun p => ⟨(wb_l_is_bound Cs), fun _ _ _ _ => False, (es_ret (et_andV (et_isi (u := (.type "int")) OT (by first | rfl | exact decide_eq_true (by assumption)) (et_var 0).x) (et_andV (et_notV (et_isi (u := (.type "bool")) OT (by first | rfl | exact decide_eq_true (by assumption)) (et_var 0).x)) (et_chain o_le o_le (et_int 0).x (et_var 0).x (et_int 3).x)))), fun ts n k h => h.2⟩⟩
abbrev N_l_is_test : List Str := ["_law_value", "_law_words", "_law_word", "_law_k"]
def wb_l_is_test (Cs : List Addr) : WS := (sSeq (sIf (bOr (bNot (wVal (wIsi Cs [(.type "list"), (.type "tuple")] (wVar 0)))) (bOr (wVal (w2 fNe (wCl fLen (aCons (wVar 0) aNil)) (wC (.int 3)))) (bNot (wVal (wIsi Cs [(.type "list"), (.type "tuple")] (w2 fIxT (wVar 0) (wC (.int 0)))))))) (sRet (wC (.bl false))) sNil) (sSeq (sAsg (w2 fIxT (wVar 0) (wC (.int 0))) (wgName 1)) (sSeq (sIf (bOr (wVal (w2 fEq (wCl fLen (aCons (wVar 1) aNil)) (wC (.int 0)))) (bNot (wVal (wCl fAll (aCons (wLc (iSeqT (wVar 1)) (wgName 2) bYes (wCal (wr_l_is_word Cs) (aCons (wVar 2) aNil) []) [2]) aNil))))) (sRet (wC (.bl false))) sNil) (sSeq (sIf (bNot (wVal (wCl fAll (aCons (wLc (iEnumT (wVar 1)) (wgTup [3, 2]) bYes (w2 (fIn true) (wVar 2) (wSlQ (wVar 1) wNoPart (wPart (wVar 3)))) [3, 2]) aNil)))) (sRet (wC (.bl false))) sNil) (sRet (wAndV (wCal (wr_l_is_bound Cs) (aCons (w2 fIxT (wVar 0) (wC (.int 1))) aNil) []) (wOrV (w2 fIsN (w2 fIxT (wVar 0) (wC (.int 2))) (wC .non)) (wCal (wr_l_is_bound Cs) (aCons (w2 fIxT (wVar 0) (wC (.int 2))) aNil) []))))))))
def wr_l_is_test (Cs : List Addr) : WF := fun ts n k => ts.length = 1 ∧ (wb_l_is_test Cs) (startE N_l_is_test ts) n { nx := fun _ m => k .non m, rt := k }
theorem mo_wr_l_is_test {Cs : List Addr} : MonoF (wr_l_is_test Cs) := monoF (K := ([] : PySem.W.Frag)) (p := none) (N := N_l_is_test) (es_seq (es_if (eb_or (eb_not (eb_val (et_isiM (us := [(.type "list"), (.type "tuple")]) (et_var 0).x))) (eb_or (eb_test (et_op o_ne (et_cl c_len (eax_cons (et_var 0).x eax_nil)).x (et_int 3).x)) (eb_not (eb_val (et_isiM (us := [(.type "list"), (.type "tuple")]) (et_op o_ixT (et_var 0).x (et_int 0).x).x))))) (es_ret (et_bl false)) es_nil) (es_seq (es_asg (et_op o_ixT (et_var 0).x (et_int 0).x) (eg_name 1)) (es_seq (es_if (eb_or (eb_test (et_op o_eq (et_cl c_len (eax_cons (et_var 1).x eax_nil)).x (et_int 0).x)) (eb_not (eb_val (et_cl c_all (eax_cons (en_lc (eis_seq (et_var 1)).ei (eg_name 2) eb_yes (et_cal mo_wr_l_is_word (fun _ => .nil) (ea_cons (et_var 2) ea_nil))).t.x eax_nil))))) (es_ret (et_bl false)) es_nil) (es_seq (es_if (eb_not (eb_val (et_cl c_all (eax_cons (en_lc (ei_enum (et_var 1)) (eg_tup2 3 2) eb_yes (et_op (o_in true) (et_var 2).x (et_slQ (et_var 1).x eo_none (eo_some (et_var 3))).x)).t.x eax_nil)))) (es_ret (et_bl false)) es_nil) (es_ret (et_andV (et_cal mo_wr_l_is_bound (fun _ => .nil) (ea_cons (et_op o_ixT (et_var 0).x (et_int 1).x) ea_nil)) (et_orV (et_op o_isN (et_op o_ixT (et_var 0).x (et_int 2).x).x et_non.x) (et_cal mo_wr_l_is_bound (fun _ => .nil) (ea_cons (et_op o_ixT (et_var 0).x (et_int 2).x) ea_nil)))))))))
set_option maxHeartbeats 4000000 in
theorem ot_l_is_test {Cs : List Addr} (F : FnP K "_law_is_test" s_l_is_test [] f fd) (c__law_is_word : Cal P w K mg base 2 "_law_is_word" [] (spT K (wr_l_is_word Cs))) (c__law_is_bound : Cal P w K mg base 1 "_law_is_bound" [] (spT K (wr_l_is_bound Cs))) (m_all : mg "all" = none) (m_enumerate : mg "enumerate" = none) (m_isinstance : mg "isinstance" = none) (m_len : mg "len" = none) (m_list : mg "list" = none) (m_tuple : mg "tuple" = none) (OT : OwnTy K Cs) : FnOk P w K mg base CX0 3 f fd ["_law_value"] (spT K (wr_l_is_test Cs)) := by
  refine Tr.okT F sc_l_is_test (fun ts n k h => h.1) fun cdv A outer s H E hr => ?_
  have nd := sc_l_is_test.nd
  exact ⟨_, (pss_cons (ps_if (PW.pt (pw_or (pt_not (pt_val (pe_callB call_isiT (by rfl) m_isinstance PyProof.Rows.Boot.«isinstance» (pa_cons (pv 0) (pa_cons (pe_tup (pa_cons (pe_bltn (v := .ty "list") (by rfl) m_list PyProof.Rows.Boot.«list» rfl) (pa_cons (pe_bltn (v := .ty "tuple") (by rfl) m_tuple PyProof.Rows.Boot.«tuple» rfl) pa_nil))) pa_nil))))) (pw_or (pt_cmpR (op_neD hr.units) (pe_callB (r := (Tr.rLen K)) call_lenT (by rfl) m_len boot_len (pa_cons (pv 0) pa_nil)) pe_int (nomark _)) (pw_or1 (pt_not (pt_val (pe_callB call_isiT (by rfl) m_isinstance PyProof.Rows.Boot.«isinstance» (pa_cons (pe_ix ix_tup (pv 0) pe_int (fun _ _ => rfl)) (pa_cons (pe_tup (pa_cons (pe_bltn (v := .ty "list") (by rfl) m_list PyProof.Rows.Boot.«list» rfl) (pa_cons (pe_bltn (v := .ty "tuple") (by rfl) m_tuple PyProof.Rows.Boot.«tuple» rfl) pa_nil))) pa_nil))))))))) (pss_one (ps_ret pe_bl)) pss_nil) (pss_cons (ps_set (i := 1) nd rfl (by first | exact Or.inl rfl | exact Or.inr rfl) (pe_ix ix_tup (pv 0) pe_int (fun _ _ => rfl))) (pss_cons (ps_if (PW.pt (pw_or (pt_cmpR (op_eqD hr.units) (pe_callB (r := (Tr.rLen K)) call_lenT (by rfl) m_len boot_len (pa_cons (pv 1) pa_nil)) pe_int (nomark _)) (pw_or1 (pt_not (pt_val (pe_callB (r := (rAll K)) (cr_all rfl) (by rfl) m_all (by decide +kernel) (pa_cons (pe_lc (own := [("_law_word", 2)]) (g := (gName 2)) (tt := tYes) (te := (tCall (spT K (wr_l_is_word Cs)) [] L2.E0 (tCons (tVar 2) tNil))) rfl nd (pi_seq (pv 1)) (blkOk_by (N := N_l_is_test) (sc := defScope s_l_is_test) (by decide +kernel)) (fun _ _ _ _ _ => (pg_name (i := 2) nd rfl (by first | exact Or.inl rfl | exact Or.inr rfl))) (fun _ _ _ _ _ => pts_nil) (fun _ _ _ _ _ => (pe_cal c__law_is_word (hr.mono (show 2 ≤ 2 by decide)) (pa_cons (pv 2) pa_nil)))) pa_nil))))))) (pss_one (ps_ret pe_bl)) pss_nil) (pss_cons (ps_if (pt_not (pt_val (pe_callB (r := (rAll K)) (cr_all rfl) (by rfl) m_all (by decide +kernel) (pa_cons (pe_lc (own := [("_law_k", 3), ("_law_word", 2)]) (g := (gTup K 2 (gCons (gName 3) (gCons (gName 2) gNil)))) (tt := tYes) (te := (tOp (rIn K true) (tVar 2) (tSl (rSlQ K) (tVar 1) (fun _ H Q => Q none H) (tPart (tVar 3))))) rfl nd (pi_enumQ rfl m_enumerate (pa_cons (pv 1) pa_nil)) (blkOk_by (N := N_l_is_test) (sc := defScope s_l_is_test) (by decide +kernel)) (fun _ _ _ _ _ => (pg_tup rfl (pgs_cons (pg_name (i := 3) nd rfl (by first | exact Or.inl rfl | exact Or.inr rfl)) (pgs_cons (pg_name (i := 2) nd rfl (by first | exact Or.inl rfl | exact Or.inr rfl)) pgs_nil)))) (fun _ _ _ _ _ => pts_nil) (fun _ _ _ _ _ => (pe_cmpR op_notIn_seq (pv 2) (pe_slice sl_seqQ (pv 1) po_none (po_some (pv 3))) (by rfl)))) pa_nil)))) (pss_one (ps_ret pe_bl)) pss_nil) (pss_one (ps_ret (pe_and (pe_cal c__law_is_bound (hr.mono (show 1 ≤ 2 by decide)) (pa_cons (pe_ix ix_tup (pv 0) pe_int (fun _ _ => rfl)) pa_nil)) (pe_one (pe_or (pe_cmpR op_isNT (pe_ix ix_tup (pv 0) pe_int (fun _ _ => rfl)) pe_non (nomark _)) (pe_one (pe_cal c__law_is_bound (hr.mono (show 1 ≤ 2 by decide)) (pa_cons (pe_ix ix_tup (pv 0) pe_int (fun _ _ => rfl)) pa_nil)))))))))))),
    fun p => ⟨(wb_l_is_test Cs), fun _ _ _ _ => False, (es_seq (es_if (eb_or (eb_not (eb_val (et_isi2 (u := (.type "list")) (u' := (.type "tuple")) OT (by first | rfl | exact decide_eq_true (by assumption)) (by first | rfl | exact decide_eq_true (by assumption)) (et_var 0).x))) (eb_or (eb_test (et_op o_ne (et_cl c_len (eax_cons (et_var 0).x eax_nil)).x (et_int 3).x)) (eb_not (eb_val (et_isi2 (u := (.type "list")) (u' := (.type "tuple")) OT (by first | rfl | exact decide_eq_true (by assumption)) (by first | rfl | exact decide_eq_true (by assumption)) (et_op o_ixT (et_var 0).x (et_int 0).x).x))))) (es_ret (et_bl false)) es_nil) (es_seq (es_asg (et_op o_ixT (et_var 0).x (et_int 0).x) (eg_name 1)) (es_seq (es_if (eb_or (eb_test (et_op o_eq (et_cl c_len (eax_cons (et_var 1).x eax_nil)).x (et_int 0).x)) (eb_not (eb_val (et_cl c_all (eax_cons (en_lc (eis_seq (et_var 1)).ei (eg_name 2) eb_yes (et_cal mo_wr_l_is_word (fun _ => .nil) (ea_cons (et_var 2) ea_nil))).t.x eax_nil))))) (es_ret (et_bl false)) es_nil) (es_seq (es_if (eb_not (eb_val (et_cl c_all (eax_cons (en_lc (ei_enum (et_var 1)) (eg_tup2 3 2) eb_yes (et_op (o_in true) (et_var 2).x (et_slQ (et_var 1).x eo_none (eo_some (et_var 3))).x)).t.x eax_nil)))) (es_ret (et_bl false)) es_nil) (es_ret (et_andV (et_cal mo_wr_l_is_bound (fun _ => .nil) (ea_cons (et_op o_ixT (et_var 0).x (et_int 1).x) ea_nil)) (et_orV (et_op o_isN (et_op o_ixT (et_var 0).x (et_int 2).x).x et_non.x) (et_cal mo_wr_l_is_bound (fun _ => .nil) (ea_cons (et_op o_ixT (et_var 0).x (et_int 2).x) ea_nil))))))))), fun ts n k h => h.2⟩⟩
abbrev N_l_is_deed : List Str := ["_law_value"]
def wb_l_is_deed (Cs : List Addr) (C_Form : Addr) (C_Statement : Addr) : WS := (sSeq (sIf (bOr (wVal (wIsi Cs [(.ref C_Statement)] (wVar 0))) (wVal (wIsi Cs [(.type "str")] (wVar 0)))) (sRet (wOrV (wIsi Cs [(.ref C_Statement)] (wVar 0)) (w2 fEqTS (wVar 0) (wC (.str "refuse"))))) sNil) (sSeq (sIf (bOr (bNot (wVal (wIsi Cs [(.type "list"), (.type "tuple")] (wVar 0)))) (wVal (w2 fNe (wCl fLen (aCons (wVar 0) aNil)) (wC (.int 3))))) (sRet (wC (.bl false))) sNil) (sRet (wAndV (w2 (fIn false) (w2 fIxT (wVar 0) (wC (.int 0))) (wTup (aCons (wC (.str "add")) (aCons (wC (.str "set")) aNil)))) (wAndV (wCal (wr_l_is_name Cs) (aCons (w2 fIxT (wVar 0) (wC (.int 1))) aNil) []) (wIsi Cs [(.ref C_Form)] (w2 fIxT (wVar 0) (wC (.int 2)))))))))
def wr_l_is_deed (Cs : List Addr) (C_Form : Addr) (C_Statement : Addr) : WF := fun ts n k => ts.length = 1 ∧ (wb_l_is_deed Cs C_Form C_Statement) (startE N_l_is_deed ts) n { nx := fun _ m => k .non m, rt := k }
theorem mo_wr_l_is_deed {Cs : List Addr} {C_Form : Addr} {C_Statement : Addr} : MonoF (wr_l_is_deed Cs C_Form C_Statement) := monoF (K := ([] : PySem.W.Frag)) (p := none) (N := N_l_is_deed) (es_seq (es_if (eb_or (eb_val (et_isiM (us := [(.ref C_Statement)]) (et_var 0).x)) (eb_val (et_isiM (us := [(.type "str")]) (et_var 0).x))) (es_ret (et_orV (et_isiM (us := [(.ref C_Statement)]) (et_var 0).x) (et_op o_eqTS (et_var 0).x (et_str "refuse").x))) es_nil) (es_seq (es_if (eb_or (eb_not (eb_val (et_isiM (us := [(.type "list"), (.type "tuple")]) (et_var 0).x))) (eb_test (et_op o_ne (et_cl c_len (eax_cons (et_var 0).x eax_nil)).x (et_int 3).x))) (es_ret (et_bl false)) es_nil) (es_ret (et_andV (et_op (o_in false) (et_op o_ixT (et_var 0).x (et_int 0).x).x (et_tup (ea_cons (et_str "add") (ea_cons (et_str "set") ea_nil))).x) (et_andV (et_cal mo_wr_l_is_name (fun _ => .nil) (ea_cons (et_op o_ixT (et_var 0).x (et_int 1).x) ea_nil)) (et_isiM (us := [(.ref C_Form)]) (et_op o_ixT (et_var 0).x (et_int 2).x).x))))))
set_option maxHeartbeats 4000000 in
theorem ot_l_is_deed {Cs : List Addr} {C_Form : Addr} {C_Statement : Addr} (F : FnP K "_law_is_deed" s_l_is_deed [] f fd) (c__law_is_name : Cal P w K mg base 1 "_law_is_name" [] (spT K (wr_l_is_name Cs))) (m_isinstance : mg "isinstance" = none) (m_len : mg "len" = none) (m_list : mg "list" = none) (m_str : mg "str" = none) (m_tuple : mg "tuple" = none) (g_Form : mg "Form" = some (.ref C_Form)) (g_Statement : mg "Statement" = some (.ref C_Statement)) (OT : OwnTy K Cs) (i_Form : C_Form ∈ Cs) (i_Statement : C_Statement ∈ Cs) : FnOk P w K mg base CX0 2 f fd ["_law_value"] (spT K (wr_l_is_deed Cs C_Form C_Statement)) := by
  refine Tr.okT F sc_l_is_deed (fun ts n k h => h.1) fun cdv A outer s H E hr => ?_
  have nd := sc_l_is_deed.nd
  exact ⟨_, (pss_cons (ps_if (PW.pt (pw_or (pt_val (pe_callB call_isi (by rfl) m_isinstance PyProof.Rows.Boot.«isinstance» (pa_cons (pv 0) (pa_cons (pe_glob (v := .ref C_Statement) (by rfl) g_Statement rfl) pa_nil)))) (pw_or1 (pt_val (pe_callB call_isi (by rfl) m_isinstance PyProof.Rows.Boot.«isinstance» (pa_cons (pv 0) (pa_cons (pe_bltn (v := .ty "str") (by rfl) m_str PyProof.Rows.Boot.«str» rfl) pa_nil))))))) (pss_one (ps_ret (pe_or (pe_callB call_isi (by rfl) m_isinstance PyProof.Rows.Boot.«isinstance» (pa_cons (pv 0) (pa_cons (pe_glob (v := .ref C_Statement) (by rfl) g_Statement rfl) pa_nil))) (pe_one (pe_cmpR (op_eqTS hr.units) (pv 0) pe_str (nomark _)))))) pss_nil) (pss_cons (ps_if (PW.pt (pw_or (pt_not (pt_val (pe_callB call_isiT (by rfl) m_isinstance PyProof.Rows.Boot.«isinstance» (pa_cons (pv 0) (pa_cons (pe_tup (pa_cons (pe_bltn (v := .ty "list") (by rfl) m_list PyProof.Rows.Boot.«list» rfl) (pa_cons (pe_bltn (v := .ty "tuple") (by rfl) m_tuple PyProof.Rows.Boot.«tuple» rfl) pa_nil))) pa_nil))))) (pw_or1 (pt_cmpR (op_neD hr.units) (pe_callB (r := (Tr.rLen K)) call_lenT (by rfl) m_len boot_len (pa_cons (pv 0) pa_nil)) pe_int (nomark _))))) (pss_one (ps_ret pe_bl)) pss_nil) (pss_one (ps_ret (pe_and (pe_cmpR op_in_seq (pe_ix ix_tup (pv 0) pe_int (fun _ _ => rfl)) (pe_tup (pa_cons pe_str (pa_cons pe_str pa_nil))) (by rfl)) (pe_and (pe_cal c__law_is_name (hr.mono (show 1 ≤ 1 by decide)) (pa_cons (pe_ix ix_tup (pv 0) pe_int (fun _ _ => rfl)) pa_nil)) (pe_one (pe_callB call_isi (by rfl) m_isinstance PyProof.Rows.Boot.«isinstance» (pa_cons (pe_ix ix_tup (pv 0) pe_int (fun _ _ => rfl)) (pa_cons (pe_glob (v := .ref C_Form) (by rfl) g_Form rfl) pa_nil)))))))))),
    fun p => ⟨(wb_l_is_deed Cs C_Form C_Statement), fun _ _ _ _ => False, (es_seq (es_if (eb_or (eb_val (et_isi (u := (.ref C_Statement)) OT (by first | rfl | exact decide_eq_true (by assumption)) (et_var 0).x)) (eb_val (et_isi (u := (.type "str")) OT (by first | rfl | exact decide_eq_true (by assumption)) (et_var 0).x))) (es_ret (et_orV (et_isi (u := (.ref C_Statement)) OT (by first | rfl | exact decide_eq_true (by assumption)) (et_var 0).x) (et_op o_eqTS (et_var 0).x (et_str "refuse").x))) es_nil) (es_seq (es_if (eb_or (eb_not (eb_val (et_isi2 (u := (.type "list")) (u' := (.type "tuple")) OT (by first | rfl | exact decide_eq_true (by assumption)) (by first | rfl | exact decide_eq_true (by assumption)) (et_var 0).x))) (eb_test (et_op o_ne (et_cl c_len (eax_cons (et_var 0).x eax_nil)).x (et_int 3).x))) (es_ret (et_bl false)) es_nil) (es_ret (et_andV (et_op (o_in false) (et_op o_ixT (et_var 0).x (et_int 0).x).x (et_tup (ea_cons (et_str "add") (ea_cons (et_str "set") ea_nil))).x) (et_andV (et_cal mo_wr_l_is_name (fun _ => .nil) (ea_cons (et_op o_ixT (et_var 0).x (et_int 1).x) ea_nil)) (et_isi (u := (.ref C_Form)) OT (by first | rfl | exact decide_eq_true (by assumption)) (et_op o_ixT (et_var 0).x (et_int 2).x).x)))))), fun ts n k h => h.2⟩⟩
abbrev N_l_due : List Str := ["_law_parts", "_law_fits", "_law_tests", "_law_deeds", "_law_words", "_law_bad", "_law_test", "_law_deed_here", "_law_word", "_law_is_fit"]
def wb_l_due (Cs : List Addr) (C_Form : Addr) (C_Statement : Addr) : WS := (sSeq (sOwn (wLst (aCons (wCal (wr_l_is_name Cs) (aCons (w2 fIxL (wVar 0) (wC (.int 0))) aNil) []) (aCons (wCal (wr_l_are_names Cs) (aCons (w2 fIxL (wVar 0) (wC (.int 1))) aNil) []) (aCons (wCal (wr_l_are_names Cs) (aCons (w2 fIxL (wVar 0) (wC (.int 2))) aNil) []) aNil)))) 1) (sSeq (sPar 2 3 (aCons (w2 fIxL (wVar 0) (wC (.int 3))) (aCons (w2 fIxL (wVar 0) (wC (.int 4))) aNil))) (sSeq (sApp 1 (wAndV (wIsi Cs [(.type "list"), (.type "tuple")] (wVar 2)) (wAndV (w2 (fI fun i j => .bl (decide (i < j))) (wCl fLen (aCons (wVar 2) aNil)) (wC (.int 4))) (wCl fAll (aCons (wLc (iSeqT (wVar 2)) (wgName 6) bYes (wCal (wr_l_is_test Cs) (aCons (wVar 6) aNil) []) [6]) aNil))))) (sSeq (sApp 1 (wAndV (wIsi Cs [(.type "list"), (.type "tuple")] (wVar 3)) (wAndV (w2 (fI fun i j => .bl (decide (i < j))) (wCl fLen (aCons (wVar 3) aNil)) (wC (.int 5))) (wCl fAll (aCons (wLc (iSeqT (wVar 3)) (wgName 7) bYes (wCal (wr_l_is_deed Cs C_Form C_Statement) (aCons (wVar 7) aNil) []) [7]) aNil))))) (sFrz 1 (sSeq (sAsg (wLst (aCons (wC (.str "name")) (aCons (wC (.str "olds")) (aCons (wC (.str "news")) (aCons (wC (.str "tests")) (aCons (wC (.str "deeds")) aNil)))))) (wgName 4)) (sSeq (sAsg (wLc (iZipT (wVar 4) (wVar 1)) (wgTup [8, 9]) (bNot (wVal (wVar 9))) (wVar 8) [8, 9]) (wgName 5)) (sRet (wIf (wVal (w2 fNe (wVar 5) (wLst aNil))) (wTup (aCons (wC (.str "bad")) (aCons (w2 fIxL (wVar 5) (wC (.int 0))) aNil))) (wTup (aCons (wC (.str "told")) (aCons (w2 fIxL (wVar 0) (wC (.int 0))) aNil))))))))))))
def wr_l_due (Cs : List Addr) (C_Form : Addr) (C_Statement : Addr) : WF := fun ts n k => ts.length = 1 ∧ (wb_l_due Cs C_Form C_Statement) (startE N_l_due ts) n { nx := fun _ m => k .non m, rt := k }
theorem mo_wr_l_due {Cs : List Addr} {C_Form : Addr} {C_Statement : Addr} : MonoF (wr_l_due Cs C_Form C_Statement) := monoF (K := ([] : PySem.W.Frag)) (p := none) (N := N_l_due) (es_seq (es_own 1 (en_lst (ea_cons (et_cal mo_wr_l_is_name (fun _ => .nil) (ea_cons (et_op o_ixL (et_var 0).x (et_int 0).x) ea_nil)) (ea_cons (et_cal mo_wr_l_are_names (fun _ => .nil) (ea_cons (et_op o_ixL (et_var 0).x (et_int 1).x) ea_nil)) (ea_cons (et_cal mo_wr_l_are_names (fun _ => .nil) (ea_cons (et_op o_ixL (et_var 0).x (et_int 2).x) ea_nil)) ea_nil))))) (es_seq (es_par (ea_cons (et_op o_ixL (et_var 0).x (et_int 3).x) (ea_cons (et_op o_ixL (et_var 0).x (et_int 4).x) ea_nil))) (es_seq (es_app 1 (et_andV (et_isiM (us := [(.type "list"), (.type "tuple")]) (et_var 2).x) (et_andV (et_op o_lt (et_cl c_len (eax_cons (et_var 2).x eax_nil)).x (et_int 4).x) (et_cl c_all (eax_cons (en_lc (eis_seq (et_var 2)).ei (eg_name 6) eb_yes (et_cal mo_wr_l_is_test (fun _ => .nil) (ea_cons (et_var 6) ea_nil))).t.x eax_nil))))) (es_seq (es_app 1 (et_andV (et_isiM (us := [(.type "list"), (.type "tuple")]) (et_var 3).x) (et_andV (et_op o_lt (et_cl c_len (eax_cons (et_var 3).x eax_nil)).x (et_int 5).x) (et_cl c_all (eax_cons (en_lc (eis_seq (et_var 3)).ei (eg_name 7) eb_yes (et_cal mo_wr_l_is_deed (fun _ => .nil) (ea_cons (et_var 7) ea_nil))).t.x eax_nil))))) (es_frz 1 (es_seq (es_asg (en_lst (ea_cons (et_str "name") (ea_cons (et_str "olds") (ea_cons (et_str "news") (ea_cons (et_str "tests") (ea_cons (et_str "deeds") ea_nil)))))).t (eg_name 4)) (es_seq (es_asg (en_lc (ei_zip (et_var 4) (et_var 1)) (eg_tup2 8 9) (eb_not (eb_val (et_var 9))) (et_var 8)).t (eg_name 5)) (es_ret (et_if (eb_test (et_op o_ne (et_var 5).x (en_lst ea_nil).t.x)) (et_tup (ea_cons (et_str "bad") (ea_cons (et_op o_ixL (et_var 5).x (et_int 0).x) ea_nil))) (et_tup (ea_cons (et_str "told") (ea_cons (et_op o_ixL (et_var 0).x (et_int 0).x) ea_nil))))))))))))
set_option maxHeartbeats 4000000 in
theorem ot_l_due {Cs : List Addr} {C_Form : Addr} {C_Statement : Addr} (F : FnP K "_law_due" s_l_due [] f fd) (c__law_is_name : Cal P w K mg base 1 "_law_is_name" [] (spT K (wr_l_is_name Cs))) (c__law_are_names : Cal P w K mg base 2 "_law_are_names" [] (spT K (wr_l_are_names Cs))) (c__law_is_test : Cal P w K mg base 3 "_law_is_test" [] (spT K (wr_l_is_test Cs))) (c__law_is_deed : Cal P w K mg base 2 "_law_is_deed" [] (spT K (wr_l_is_deed Cs C_Form C_Statement))) (m_all : mg "all" = none) (m_isinstance : mg "isinstance" = none) (m_len : mg "len" = none) (m_list : mg "list" = none) (m_tuple : mg "tuple" = none) (m_zip : mg "zip" = none) (OT : OwnTy K Cs) : FnOk P w K mg base CX0 4 f fd ["_law_parts"] (spT K (wr_l_due Cs C_Form C_Statement)) := by
  refine Tr.okT F sc_l_due (fun ts n k h => h.1) fun cdv A outer s H E hr => ?_
  have nd := sc_l_due.nd
  exact ⟨_, (pss_cons (ps_set (i := 1) nd rfl (by first | exact Or.inl rfl | exact Or.inr rfl) (pe_lst (pa_cons (pe_cal c__law_is_name (hr.mono (show 1 ≤ 3 by decide)) (pa_cons (pe_ix ix_list (pv 0) pe_int (fun _ _ => rfl)) pa_nil)) (pa_cons (pe_cal c__law_are_names (hr.mono (show 2 ≤ 3 by decide)) (pa_cons (pe_ix ix_list (pv 0) pe_int (fun _ _ => rfl)) pa_nil)) (pa_cons (pe_cal c__law_are_names (hr.mono (show 2 ≤ 3 by decide)) (pa_cons (pe_ix ix_list (pv 0) pe_int (fun _ _ => rfl)) pa_nil)) pa_nil))))) (pss_cons (ps_par (i := 2) (j := 3) rfl nd rfl rfl (by decide) rfl rfl (pa_cons (pe_ix ix_list (pv 0) pe_int (fun _ _ => rfl)) (pa_cons (pe_ix ix_list (pv 0) pe_int (fun _ _ => rfl)) pa_nil)) (by rfl)) (pss_cons (ps_expr (pe_bm PySem.F.plainAttrs_list PySem.F.slot_list_append PySem.F.type_list_append mt_append (pv 1) (pa_cons (pe_and (pe_callB call_isiT (by rfl) m_isinstance PyProof.Rows.Boot.«isinstance» (pa_cons (pv 2) (pa_cons (pe_tup (pa_cons (pe_bltn (v := .ty "list") (by rfl) m_list PyProof.Rows.Boot.«list» rfl) (pa_cons (pe_bltn (v := .ty "tuple") (by rfl) m_tuple PyProof.Rows.Boot.«tuple» rfl) pa_nil))) pa_nil))) (pe_and (pe_cmpR op_lt (pe_callB (r := (Tr.rLen K)) call_lenT (by rfl) m_len boot_len (pa_cons (pv 2) pa_nil)) pe_int (nomark _)) (pe_one (pe_callB (r := (rAll K)) (cr_all rfl) (by rfl) m_all (by decide +kernel) (pa_cons (pe_lc (own := [("_law_test", 6)]) (g := (gName 6)) (tt := tYes) (te := (tCall (spT K (wr_l_is_test Cs)) [] L2.E0 (tCons (tVar 6) tNil))) rfl nd (pi_seq (pv 2)) (blkOk_by (N := N_l_due) (sc := defScope s_l_due) (by decide +kernel)) (fun _ _ _ _ _ => (pg_name (i := 6) nd rfl (by first | exact Or.inl rfl | exact Or.inr rfl))) (fun _ _ _ _ _ => pts_nil) (fun _ _ _ _ _ => (pe_cal c__law_is_test (hr.mono (show 3 ≤ 3 by decide)) (pa_cons (pv 6) pa_nil)))) pa_nil))))) pa_nil))) (pss_cons (ps_expr (pe_bm PySem.F.plainAttrs_list PySem.F.slot_list_append PySem.F.type_list_append mt_append (pv 1) (pa_cons (pe_and (pe_callB call_isiT (by rfl) m_isinstance PyProof.Rows.Boot.«isinstance» (pa_cons (pv 3) (pa_cons (pe_tup (pa_cons (pe_bltn (v := .ty "list") (by rfl) m_list PyProof.Rows.Boot.«list» rfl) (pa_cons (pe_bltn (v := .ty "tuple") (by rfl) m_tuple PyProof.Rows.Boot.«tuple» rfl) pa_nil))) pa_nil))) (pe_and (pe_cmpR op_lt (pe_callB (r := (Tr.rLen K)) call_lenT (by rfl) m_len boot_len (pa_cons (pv 3) pa_nil)) pe_int (nomark _)) (pe_one (pe_callB (r := (rAll K)) (cr_all rfl) (by rfl) m_all (by decide +kernel) (pa_cons (pe_lc (own := [("_law_deed_here", 7)]) (g := (gName 7)) (tt := tYes) (te := (tCall (spT K (wr_l_is_deed Cs C_Form C_Statement)) [] L2.E0 (tCons (tVar 7) tNil))) rfl nd (pi_seq (pv 3)) (blkOk_by (N := N_l_due) (sc := defScope s_l_due) (by decide +kernel)) (fun _ _ _ _ _ => (pg_name (i := 7) nd rfl (by first | exact Or.inl rfl | exact Or.inr rfl))) (fun _ _ _ _ _ => pts_nil) (fun _ _ _ _ _ => (pe_cal c__law_is_deed (hr.mono (show 2 ≤ 3 by decide)) (pa_cons (pv 7) pa_nil)))) pa_nil))))) pa_nil))) (pss_cons (ps_set (i := 4) nd rfl (by first | exact Or.inl rfl | exact Or.inr rfl) (pe_lst (pa_cons pe_str (pa_cons pe_str (pa_cons pe_str (pa_cons pe_str (pa_cons pe_str pa_nil))))))) (pss_cons (ps_setLc (i := 5) (own := [("_law_word", 8), ("_law_is_fit", 9)]) (g := (gTup K 2 (gCons (gName 8) (gCons (gName 9) gNil)))) (tt := (tNot (tB (tVar 9)))) (te := (tVar 8)) rfl nd rfl rfl (sw_true rfl rfl rfl (by decide +kernel)) (pi_zip rfl m_zip (pa_cons (pv 4) (pa_cons (pv 1) pa_nil))) (blkOk_by (N := N_l_due) (sc := defScope s_l_due) (by decide +kernel)) (fun _ _ _ _ _ => (pg_tup rfl (pgs_cons (pg_name (i := 8) nd rfl (by first | exact Or.inl rfl | exact Or.inr rfl)) (pgs_cons (pg_name (i := 9) nd rfl (by first | exact Or.inl rfl | exact Or.inr rfl)) pgs_nil)))) (fun _ _ _ _ _ => (pts_one (pt_not (pt_val (pv 9))))) (fun _ _ _ _ _ => (pv 8))) (pss_one (ps_ret (pe_ifExp (pt_cmpR (op_neD hr.units) (pv 5) (pe_lst pa_nil) (nomark _)) (pe_tup (pa_cons pe_str (pa_cons (pe_ix ix_list (pv 5) pe_int (fun _ _ => rfl)) pa_nil))) (pe_tup (pa_cons pe_str (pa_cons (pe_ix ix_list (pv 0) pe_int (fun _ _ => rfl)) pa_nil)))))))))))),
    fun p => ⟨(wb_l_due Cs C_Form C_Statement), fun _ _ _ _ => False, (es_seq (es_own 1 (en_lst (ea_cons (et_cal mo_wr_l_is_name (fun _ => .nil) (ea_cons (et_op o_ixL (et_var 0).x (et_int 0).x) ea_nil)) (ea_cons (et_cal mo_wr_l_are_names (fun _ => .nil) (ea_cons (et_op o_ixL (et_var 0).x (et_int 1).x) ea_nil)) (ea_cons (et_cal mo_wr_l_are_names (fun _ => .nil) (ea_cons (et_op o_ixL (et_var 0).x (et_int 2).x) ea_nil)) ea_nil))))) (es_seq (es_par (ea_cons (et_op o_ixL (et_var 0).x (et_int 3).x) (ea_cons (et_op o_ixL (et_var 0).x (et_int 4).x) ea_nil))) (es_seq (es_app 1 (et_andV (et_isi2 (u := (.type "list")) (u' := (.type "tuple")) OT (by first | rfl | exact decide_eq_true (by assumption)) (by first | rfl | exact decide_eq_true (by assumption)) (et_var 2).x) (et_andV (et_op o_lt (et_cl c_len (eax_cons (et_var 2).x eax_nil)).x (et_int 4).x) (et_cl c_all (eax_cons (en_lc (eis_seq (et_var 2)).ei (eg_name 6) eb_yes (et_cal mo_wr_l_is_test (fun _ => .nil) (ea_cons (et_var 6) ea_nil))).t.x eax_nil))))) (es_seq (es_app 1 (et_andV (et_isi2 (u := (.type "list")) (u' := (.type "tuple")) OT (by first | rfl | exact decide_eq_true (by assumption)) (by first | rfl | exact decide_eq_true (by assumption)) (et_var 3).x) (et_andV (et_op o_lt (et_cl c_len (eax_cons (et_var 3).x eax_nil)).x (et_int 5).x) (et_cl c_all (eax_cons (en_lc (eis_seq (et_var 3)).ei (eg_name 7) eb_yes (et_cal mo_wr_l_is_deed (fun _ => .nil) (ea_cons (et_var 7) ea_nil))).t.x eax_nil))))) (es_frz 1 (es_seq (es_asg (en_lst (ea_cons (et_str "name") (ea_cons (et_str "olds") (ea_cons (et_str "news") (ea_cons (et_str "tests") (ea_cons (et_str "deeds") ea_nil)))))).t (eg_name 4)) (es_seq (es_asg (en_lc (ei_zip (et_var 4) (et_var 1)) (eg_tup2 8 9) (eb_not (eb_val (et_var 9))) (et_var 8)).t (eg_name 5)) (es_ret (et_if (eb_test (et_op o_ne (et_var 5).x (en_lst ea_nil).t.x)) (et_tup (ea_cons (et_str "bad") (ea_cons (et_op o_ixL (et_var 5).x (et_int 0).x) ea_nil))) (et_tup (ea_cons (et_str "told") (ea_cons (et_op o_ixL (et_var 0).x (et_int 0).x) ea_nil)))))))))))), fun ts n k h => h.2⟩⟩
abbrev N_l_odd : List Str := ["_law_source_here", "_law_at", "_law_test", "_law_deed_here", "_law_good", "_law_some_here"]
def wb_l_odd (C_Form : Addr) : WS := (sSeq (sIf (wVal (w2 fEq (wVar 1) (wC (.int 0)))) (sRet (wCal pickW (aCons (wVar 0) (aCons (wLst (aCons (wC (.str "")) (aCons (wC (.str "A")) (aCons (wC .non) (aCons (wC (.int 5)) (aCons (wC (.str "ninechars")) (aCons (wLst (aCons (wC (.str "a")) aNil)) (aCons (wC (.bl true)) (aCons (wC (.str "a b")) (aCons (wC (.str "a1")) (aCons (wC (.str "a{")) aNil))))))))))) aNil)) [])) sNil) (sSeq (sIf (wVal (w2 (fI fun i j => .bl (decide (i < j))) (wVar 1) (wC (.int 3)))) (sRet (wCal pickW (aCons (wVar 0) (aCons (wLst (aCons (wC .non) (aCons (wC (.str "ab")) (aCons (wC (.int 5)) (aCons (wLst (aCons (wC (.str "a")) (aCons (wC (.str "a")) aNil))) (aCons (wLst (aCons (wC .non) aNil)) (aCons (wLst (aCons (wC (.str "A")) aNil)) (aCons (wLst (aCons (wLst (aCons (wC (.str "a")) aNil)) aNil)) (aCons wDNew (aCons (wTup (aCons (wC (.str "a")) aNil)) (aCons (wLst aNil) (aCons (wLst (aCons (wC (.str "old.a")) aNil)) aNil)))))))))))) aNil)) [])) sNil) (sSeq (sAsg (wCal pickW (aCons (wVar 0) (aCons (wLst (aCons (wTup (aCons (wLst (aCons (wC (.str "a")) aNil)) (aCons (wC (.int 0)) (aCons (wC (.int 4)) aNil)))) (aCons (wTup (aCons (wLst (aCons (wC (.str "a")) aNil)) (aCons (wNeg (wC (.int 1))) (aCons (wC .non) aNil)))) (aCons (wTup (aCons (wLst (aCons (wC (.str "a")) aNil)) (aCons (wC (.int 0)) (aCons (wC (.bl true)) aNil)))) (aCons (wTup (aCons (wLst aNil) (aCons (wC (.int 0)) (aCons (wC (.int 1)) aNil)))) (aCons (wTup (aCons (wLst (aCons (wC (.str "a")) (aCons (wC (.str "a")) aNil))) (aCons (wC (.int 0)) (aCons (wC (.int 1)) aNil)))) aNil)))))) aNil)) []) (wgName 2)) (sSeq (sAsg (wCal pickW (aCons (wVar 0) (aCons (wLst (aCons (wVar 2) (aCons (wTup (aCons (wLst (aCons (wC (.str "a.b")) aNil)) (aCons (wC (.int 0)) (aCons (wC (.int 1)) aNil)))) (aCons (wTup (aCons (wLst (aCons (wC (.str "a")) aNil)) (aCons (wC (.int 0)) aNil))) (aCons (wTup (aCons (wC (.str "a")) (aCons (wC (.int 0)) (aCons (wC (.int 1)) aNil)))) (aCons (wC .non) (aCons (wTup (aCons (wLst (aCons (wC (.str "a")) aNil)) (aCons (wC (.str "0")) (aCons (wC (.int 1)) aNil)))) (aCons (wTup (aCons (wLst (aCons (wC (.str "a")) aNil)) (aCons (wC (.int 3)) (aCons (wC (.int 0)) aNil)))) aNil)))))))) aNil)) []) (wgName 2)) (sSeq (sAsg (wCal pickW (aCons (wVar 0) (aCons (wLst (aCons (wVar 2) (aCons (wVar 2) (aCons (wVar 2) (aCons (wTup (aCons (wLst (aCons (wLst (aCons (wC (.str "a")) aNil)) aNil)) (aCons (wC (.int 0)) (aCons (wC (.int 1)) aNil)))) (aCons (wTup (aCons (wLst (aCons wDNew aNil)) (aCons (wC (.int 0)) (aCons (wC (.int 1)) aNil)))) (aCons (wTup (aCons (wLst (aCons (wC .non) (aCons (wC (.str "a")) aNil))) (aCons (wC (.int 0)) (aCons (wC (.int 1)) aNil)))) (aCons (wTup (aCons (wLst (aCons (wC (.str "a")) (aCons (wC (.int 5)) aNil))) (aCons (wC (.int 0)) (aCons (wC (.int 1)) aNil)))) aNil)))))))) aNil)) []) (wgName 2)) (sSeq (sAsg (wCal pickW (aCons (wVar 0) (aCons (wLst (aCons (wC (.str "refused")) (aCons (wC .non) (aCons (wC (.int 5)) (aCons (wTup (aCons (wC (.str "add")) (aCons (wC (.str "a")) aNil))) (aCons (wTup (aCons (wC (.str "add")) (aCons (wC (.str "a")) (aCons (wC (.int 5)) aNil)))) (aCons (wTup (aCons (wC (.str "sub")) (aCons (wC (.str "a")) (aCons (wForm1 C_Form wDNew) aNil)))) (aCons wDNew (aCons (wLst aNil) aNil))))))))) aNil)) []) (wgName 3)) (sSeq (sAsg (wCal pickW (aCons (wVar 0) (aCons (wLst (aCons (wVar 3) (aCons (wTup (aCons (wC (.str "set")) (aCons (wC (.str "A")) (aCons (wForm1 C_Form wDNew) aNil)))) (aCons (wTup (aCons (wC (.str "add")) (aCons (wC (.str "a")) (aCons (wForm1 C_Form wDNew) (aCons (wC (.int 1)) aNil))))) (aCons (wTup (aCons (wC .non) (aCons (wC (.str "a")) (aCons (wForm1 C_Form wDNew) aNil)))) (aCons (wC (.str "refuse")) aNil)))))) aNil)) []) (wgName 3)) (sSeq (sAsg (wIf (wVal (w2 fEq (wVar 1) (wC (.int 3)))) (wTup (aCons (wLst (aCons (wC (.str "a")) (aCons (wC (.str "old.a")) aNil))) (aCons (wC (.int 0)) (aCons (wC .non) aNil)))) (wTup (aCons (wC (.str "add")) (aCons (wC (.str "a")) (aCons (wForm1 C_Form (wDisp1 (wC (.str "a")) (wC (.int 1)))) aNil))))) (wgName 4)) (sSeq (sAsg (wLst (aCons (w2 fRep (wLst (aCons (wVar 4) aNil)) (w2 (fI fun i j => .int (i + j)) (wC (.int 3)) (wCal drawW (aCons (wVar 0) (aCons (wC (.int 3)) aNil)) []))) (aCons (wLst (aCons (wVar 4) (aCons (wIf (wVal (w2 fEq (wVar 1) (wC (.int 3)))) (wVar 2) (wVar 3)) aNil))) (aCons (wLst (aCons (wIf (wVal (w2 fEq (wVar 1) (wC (.int 3)))) (wVar 2) (wVar 3)) aNil)) aNil)))) (wgName 5)) (sRet (wCal pickW (aCons (wVar 0) (aCons (w2 fCat (wVar 5) (wLst (aCons (wC .non) (aCons (wC (.str "ab")) (aCons (wC (.int 5)) (aCons wDNew (aCons (wTup aNil) aNil))))))) aNil)) [])))))))))))
def wr_l_odd (C_Form : Addr) : WF := fun ts n k => ts.length = 2 ∧ (wb_l_odd C_Form) (startE N_l_odd ts) n { nx := fun _ m => k .non m, rt := k }
theorem mo_wr_l_odd {C_Form : Addr} : MonoF (wr_l_odd C_Form) := monoF (K := ([] : PySem.W.Frag)) (p := none) (N := N_l_odd) (es_seq (es_if (eb_test (et_op o_eq (et_var 1).x (et_int 0).x)) (es_ret (et_cal mo_pickW (fun _ => .nil) (ea_cons (et_var 0) (ea_cons (en_lst (ea_cons (et_str "") (ea_cons (et_str "A") (ea_cons et_non (ea_cons (et_int 5) (ea_cons (et_str "ninechars") (ea_cons (en_lst (ea_cons (et_str "a") ea_nil)).t (ea_cons (et_bl true) (ea_cons (et_str "a b") (ea_cons (et_str "a1") (ea_cons (et_str "a{") ea_nil))))))))))).t ea_nil)))) es_nil) (es_seq (es_if (eb_test (et_op o_lt (et_var 1).x (et_int 3).x)) (es_ret (et_cal mo_pickW (fun _ => .nil) (ea_cons (et_var 0) (ea_cons (en_lst (ea_cons et_non (ea_cons (et_str "ab") (ea_cons (et_int 5) (ea_cons (en_lst (ea_cons (et_str "a") (ea_cons (et_str "a") ea_nil))).t (ea_cons (en_lst (ea_cons et_non ea_nil)).t (ea_cons (en_lst (ea_cons (et_str "A") ea_nil)).t (ea_cons (en_lst (ea_cons (en_lst (ea_cons (et_str "a") ea_nil)).t ea_nil)).t (ea_cons en_dnew.t (ea_cons (et_tup (ea_cons (et_str "a") ea_nil)) (ea_cons (en_lst ea_nil).t (ea_cons (en_lst (ea_cons (et_str "old.a") ea_nil)).t ea_nil)))))))))))).t ea_nil)))) es_nil) (es_seq (es_asg (et_cal mo_pickW (fun _ => .nil) (ea_cons (et_var 0) (ea_cons (en_lst (ea_cons (et_tup (ea_cons (en_lst (ea_cons (et_str "a") ea_nil)).t (ea_cons (et_int 0) (ea_cons (et_int 4) ea_nil)))) (ea_cons (et_tup (ea_cons (en_lst (ea_cons (et_str "a") ea_nil)).t (ea_cons (et_neg (et_int 1)) (ea_cons et_non ea_nil)))) (ea_cons (et_tup (ea_cons (en_lst (ea_cons (et_str "a") ea_nil)).t (ea_cons (et_int 0) (ea_cons (et_bl true) ea_nil)))) (ea_cons (et_tup (ea_cons (en_lst ea_nil).t (ea_cons (et_int 0) (ea_cons (et_int 1) ea_nil)))) (ea_cons (et_tup (ea_cons (en_lst (ea_cons (et_str "a") (ea_cons (et_str "a") ea_nil))).t (ea_cons (et_int 0) (ea_cons (et_int 1) ea_nil)))) ea_nil)))))).t ea_nil))) (eg_name 2)) (es_seq (es_asg (et_cal mo_pickW (fun _ => .nil) (ea_cons (et_var 0) (ea_cons (en_lst (ea_cons (et_var 2) (ea_cons (et_tup (ea_cons (en_lst (ea_cons (et_str "a.b") ea_nil)).t (ea_cons (et_int 0) (ea_cons (et_int 1) ea_nil)))) (ea_cons (et_tup (ea_cons (en_lst (ea_cons (et_str "a") ea_nil)).t (ea_cons (et_int 0) ea_nil))) (ea_cons (et_tup (ea_cons (et_str "a") (ea_cons (et_int 0) (ea_cons (et_int 1) ea_nil)))) (ea_cons et_non (ea_cons (et_tup (ea_cons (en_lst (ea_cons (et_str "a") ea_nil)).t (ea_cons (et_str "0") (ea_cons (et_int 1) ea_nil)))) (ea_cons (et_tup (ea_cons (en_lst (ea_cons (et_str "a") ea_nil)).t (ea_cons (et_int 3) (ea_cons (et_int 0) ea_nil)))) ea_nil)))))))).t ea_nil))) (eg_name 2)) (es_seq (es_asg (et_cal mo_pickW (fun _ => .nil) (ea_cons (et_var 0) (ea_cons (en_lst (ea_cons (et_var 2) (ea_cons (et_var 2) (ea_cons (et_var 2) (ea_cons (et_tup (ea_cons (en_lst (ea_cons (en_lst (ea_cons (et_str "a") ea_nil)).t ea_nil)).t (ea_cons (et_int 0) (ea_cons (et_int 1) ea_nil)))) (ea_cons (et_tup (ea_cons (en_lst (ea_cons en_dnew.t ea_nil)).t (ea_cons (et_int 0) (ea_cons (et_int 1) ea_nil)))) (ea_cons (et_tup (ea_cons (en_lst (ea_cons et_non (ea_cons (et_str "a") ea_nil))).t (ea_cons (et_int 0) (ea_cons (et_int 1) ea_nil)))) (ea_cons (et_tup (ea_cons (en_lst (ea_cons (et_str "a") (ea_cons (et_int 5) ea_nil))).t (ea_cons (et_int 0) (ea_cons (et_int 1) ea_nil)))) ea_nil)))))))).t ea_nil))) (eg_name 2)) (es_seq (es_asg (et_cal mo_pickW (fun _ => .nil) (ea_cons (et_var 0) (ea_cons (en_lst (ea_cons (et_str "refused") (ea_cons et_non (ea_cons (et_int 5) (ea_cons (et_tup (ea_cons (et_str "add") (ea_cons (et_str "a") ea_nil))) (ea_cons (et_tup (ea_cons (et_str "add") (ea_cons (et_str "a") (ea_cons (et_int 5) ea_nil)))) (ea_cons (et_tup (ea_cons (et_str "sub") (ea_cons (et_str "a") (ea_cons (et_form1 en_dnew.t) ea_nil)))) (ea_cons en_dnew.t (ea_cons (en_lst ea_nil).t ea_nil))))))))).t ea_nil))) (eg_name 3)) (es_seq (es_asg (et_cal mo_pickW (fun _ => .nil) (ea_cons (et_var 0) (ea_cons (en_lst (ea_cons (et_var 3) (ea_cons (et_tup (ea_cons (et_str "set") (ea_cons (et_str "A") (ea_cons (et_form1 en_dnew.t) ea_nil)))) (ea_cons (et_tup (ea_cons (et_str "add") (ea_cons (et_str "a") (ea_cons (et_form1 en_dnew.t) (ea_cons (et_int 1) ea_nil))))) (ea_cons (et_tup (ea_cons et_non (ea_cons (et_str "a") (ea_cons (et_form1 en_dnew.t) ea_nil)))) (ea_cons (et_str "refuse") ea_nil)))))).t ea_nil))) (eg_name 3)) (es_seq (es_asg (et_if (eb_test (et_op o_eq (et_var 1).x (et_int 3).x)) (et_tup (ea_cons (en_lst (ea_cons (et_str "a") (ea_cons (et_str "old.a") ea_nil))).t (ea_cons (et_int 0) (ea_cons et_non ea_nil)))) (et_tup (ea_cons (et_str "add") (ea_cons (et_str "a") (ea_cons (et_form1 (en_disp1 (et_str "a") (et_int 1)).t) ea_nil))))) (eg_name 4)) (es_seq (es_asg (en_lst (ea_cons (en_op o_rep (en_lst (ea_cons (et_var 4) ea_nil)).t.x (et_op o_addI (et_int 3).x (et_cal mo_drawW (fun _ => .nil) (ea_cons (et_var 0) (ea_cons (et_int 3) ea_nil))).x).x).t (ea_cons (en_lst (ea_cons (et_var 4) (ea_cons (et_if (eb_test (et_op o_eq (et_var 1).x (et_int 3).x)) (et_var 2) (et_var 3)) ea_nil))).t (ea_cons (en_lst (ea_cons (et_if (eb_test (et_op o_eq (et_var 1).x (et_int 3).x)) (et_var 2) (et_var 3)) ea_nil)).t ea_nil)))).t (eg_name 5)) (es_ret (et_cal mo_pickW (fun _ => .nil) (ea_cons (et_var 0) (ea_cons (en_op o_cat (et_var 5).x (en_lst (ea_cons et_non (ea_cons (et_str "ab") (ea_cons (et_int 5) (ea_cons en_dnew.t (ea_cons (et_tup ea_nil) ea_nil)))))).t.x).t ea_nil)))))))))))))
set_option maxHeartbeats 4000000 in
theorem ot_l_odd {C_Form : Addr} (F : FnP K "_law_odd" s_l_odd [] f fd) (c__law_pick : Cal P w K mg base 2 "_law_pick" [] (spT K pickW)) (c__law_draw : Cal P w K mg base 1 "_law_draw" [] (spT K drawW)) (c_Form1 : MkF P w K mg base "Form" C_Form 5 [.int 0] (sp_finit K C_Form)) : FnOk P w K mg base CX0 7 f fd ["_law_source_here", "_law_at"] (spT K (wr_l_odd C_Form)) := by
  refine Tr.okT F sc_l_odd (fun ts n k h => h.1) fun cdv A outer s H E hr => ?_
  have nd := sc_l_odd.nd
  exact ⟨_, (pss_cons (ps_if (pt_cmpR (op_eqD hr.units) (pv 1) pe_int (nomark _)) (pss_one (ps_ret (pe_cal c__law_pick (hr.mono (show 2 ≤ 6 by decide)) (pa_cons (pv 0) (pa_cons (pe_lst (pa_cons pe_str (pa_cons pe_str (pa_cons pe_non (pa_cons pe_int (pa_cons pe_str (pa_cons (pe_lst (pa_cons pe_str pa_nil)) (pa_cons pe_bl (pa_cons pe_str (pa_cons pe_str (pa_cons pe_str pa_nil))))))))))) pa_nil))))) pss_nil) (pss_cons (ps_if (pt_cmpR op_lt (pv 1) pe_int (nomark _)) (pss_one (ps_ret (pe_cal c__law_pick (hr.mono (show 2 ≤ 6 by decide)) (pa_cons (pv 0) (pa_cons (pe_lst (pa_cons pe_non (pa_cons pe_str (pa_cons pe_int (pa_cons (pe_lst (pa_cons pe_str (pa_cons pe_str pa_nil))) (pa_cons (pe_lst (pa_cons pe_non pa_nil)) (pa_cons (pe_lst (pa_cons pe_str pa_nil)) (pa_cons (pe_lst (pa_cons (pe_lst (pa_cons pe_str pa_nil)) pa_nil)) (pa_cons pe_dnewK (pa_cons (pe_tup (pa_cons pe_str pa_nil)) (pa_cons (pe_lst pa_nil) (pa_cons (pe_lst (pa_cons pe_str pa_nil)) pa_nil)))))))))))) pa_nil))))) pss_nil) (pss_cons (ps_set (i := 2) nd rfl (by first | exact Or.inl rfl | exact Or.inr rfl) (pe_cal c__law_pick (hr.mono (show 2 ≤ 6 by decide)) (pa_cons (pv 0) (pa_cons (pe_lst (pa_cons (pe_tup (pa_cons (pe_lst (pa_cons pe_str pa_nil)) (pa_cons pe_int (pa_cons pe_int pa_nil)))) (pa_cons (pe_tup (pa_cons (pe_lst (pa_cons pe_str pa_nil)) (pa_cons (pe_un un_neg pe_int) (pa_cons pe_non pa_nil)))) (pa_cons (pe_tup (pa_cons (pe_lst (pa_cons pe_str pa_nil)) (pa_cons pe_int (pa_cons pe_bl pa_nil)))) (pa_cons (pe_tup (pa_cons (pe_lst pa_nil) (pa_cons pe_int (pa_cons pe_int pa_nil)))) (pa_cons (pe_tup (pa_cons (pe_lst (pa_cons pe_str (pa_cons pe_str pa_nil))) (pa_cons pe_int (pa_cons pe_int pa_nil)))) pa_nil)))))) pa_nil)))) (pss_cons (ps_set (i := 2) nd rfl (by first | exact Or.inl rfl | exact Or.inr rfl) (pe_cal c__law_pick (hr.mono (show 2 ≤ 6 by decide)) (pa_cons (pv 0) (pa_cons (pe_lst (pa_cons (pv 2) (pa_cons (pe_tup (pa_cons (pe_lst (pa_cons pe_str pa_nil)) (pa_cons pe_int (pa_cons pe_int pa_nil)))) (pa_cons (pe_tup (pa_cons (pe_lst (pa_cons pe_str pa_nil)) (pa_cons pe_int pa_nil))) (pa_cons (pe_tup (pa_cons pe_str (pa_cons pe_int (pa_cons pe_int pa_nil)))) (pa_cons pe_non (pa_cons (pe_tup (pa_cons (pe_lst (pa_cons pe_str pa_nil)) (pa_cons pe_str (pa_cons pe_int pa_nil)))) (pa_cons (pe_tup (pa_cons (pe_lst (pa_cons pe_str pa_nil)) (pa_cons pe_int (pa_cons pe_int pa_nil)))) pa_nil)))))))) pa_nil)))) (pss_cons (ps_set (i := 2) nd rfl (by first | exact Or.inl rfl | exact Or.inr rfl) (pe_cal c__law_pick (hr.mono (show 2 ≤ 6 by decide)) (pa_cons (pv 0) (pa_cons (pe_lst (pa_cons (pv 2) (pa_cons (pv 2) (pa_cons (pv 2) (pa_cons (pe_tup (pa_cons (pe_lst (pa_cons (pe_lst (pa_cons pe_str pa_nil)) pa_nil)) (pa_cons pe_int (pa_cons pe_int pa_nil)))) (pa_cons (pe_tup (pa_cons (pe_lst (pa_cons pe_dnewK pa_nil)) (pa_cons pe_int (pa_cons pe_int pa_nil)))) (pa_cons (pe_tup (pa_cons (pe_lst (pa_cons pe_non (pa_cons pe_str pa_nil))) (pa_cons pe_int (pa_cons pe_int pa_nil)))) (pa_cons (pe_tup (pa_cons (pe_lst (pa_cons pe_str (pa_cons pe_int pa_nil))) (pa_cons pe_int (pa_cons pe_int pa_nil)))) pa_nil)))))))) pa_nil)))) (pss_cons (ps_set (i := 3) nd rfl (by first | exact Or.inl rfl | exact Or.inr rfl) (pe_cal c__law_pick (hr.mono (show 2 ≤ 6 by decide)) (pa_cons (pv 0) (pa_cons (pe_lst (pa_cons pe_str (pa_cons pe_non (pa_cons pe_int (pa_cons (pe_tup (pa_cons pe_str (pa_cons pe_str pa_nil))) (pa_cons (pe_tup (pa_cons pe_str (pa_cons pe_str (pa_cons pe_int pa_nil)))) (pa_cons (pe_tup (pa_cons pe_str (pa_cons pe_str (pa_cons (pe_mk c_Form1 (hr.mono (show 6 ≤ 6 by decide)) (pa_cons pe_dnewK pa_nil)) pa_nil)))) (pa_cons pe_dnewK (pa_cons (pe_lst pa_nil) pa_nil))))))))) pa_nil)))) (pss_cons (ps_set (i := 3) nd rfl (by first | exact Or.inl rfl | exact Or.inr rfl) (pe_cal c__law_pick (hr.mono (show 2 ≤ 6 by decide)) (pa_cons (pv 0) (pa_cons (pe_lst (pa_cons (pv 3) (pa_cons (pe_tup (pa_cons pe_str (pa_cons pe_str (pa_cons (pe_mk c_Form1 (hr.mono (show 6 ≤ 6 by decide)) (pa_cons pe_dnewK pa_nil)) pa_nil)))) (pa_cons (pe_tup (pa_cons pe_str (pa_cons pe_str (pa_cons (pe_mk c_Form1 (hr.mono (show 6 ≤ 6 by decide)) (pa_cons pe_dnewK pa_nil)) (pa_cons pe_int pa_nil))))) (pa_cons (pe_tup (pa_cons pe_non (pa_cons pe_str (pa_cons (pe_mk c_Form1 (hr.mono (show 6 ≤ 6 by decide)) (pa_cons pe_dnewK pa_nil)) pa_nil)))) (pa_cons pe_str pa_nil)))))) pa_nil)))) (pss_cons (ps_set (i := 4) nd rfl (by first | exact Or.inl rfl | exact Or.inr rfl) (pe_ifExp (pt_cmpR (op_eqD hr.units) (pv 1) pe_int (nomark _)) (pe_tup (pa_cons (pe_lst (pa_cons pe_str (pa_cons pe_str pa_nil))) (pa_cons pe_int (pa_cons pe_non pa_nil)))) (pe_tup (pa_cons pe_str (pa_cons pe_str (pa_cons (pe_mk c_Form1 (hr.mono (show 6 ≤ 6 by decide)) (pa_cons (pe_disp (pps_cons pe_str pe_int pps_nil) rfl rfl (List.cons_ne_nil _ _) (by decide)) pa_nil)) pa_nil)))))) (pss_cons (ps_set (i := 5) nd rfl (by first | exact Or.inl rfl | exact Or.inr rfl) (pe_lst (pa_cons (pe_op op_rep (pe_lst (pa_cons (pv 4) pa_nil)) (pe_op op_add pe_int (pe_cal c__law_draw (hr.mono (show 1 ≤ 6 by decide)) (pa_cons (pv 0) (pa_cons pe_int pa_nil))))) (pa_cons (pe_lst (pa_cons (pv 4) (pa_cons (pe_ifExp (pt_cmpR (op_eqD hr.units) (pv 1) pe_int (nomark _)) (pv 2) (pv 3)) pa_nil))) (pa_cons (pe_lst (pa_cons (pe_ifExp (pt_cmpR (op_eqD hr.units) (pv 1) pe_int (nomark _)) (pv 2) (pv 3)) pa_nil)) pa_nil))))) (pss_one (ps_ret (pe_cal c__law_pick (hr.mono (show 2 ≤ 6 by decide)) (pa_cons (pv 0) (pa_cons (pe_op op_cat (pv 5) (pe_lst (pa_cons pe_non (pa_cons pe_str (pa_cons pe_int (pa_cons pe_dnewK (pa_cons (pe_tup pa_nil) pa_nil))))))) pa_nil)))))))))))))),
    fun p => ⟨(wb_l_odd C_Form), fun _ _ _ _ => False, (es_seq (es_if (eb_test (et_op o_eq (et_var 1).x (et_int 0).x)) (es_ret (et_cal mo_pickW (fun _ => .nil) (ea_cons (et_var 0) (ea_cons (en_lst (ea_cons (et_str "") (ea_cons (et_str "A") (ea_cons et_non (ea_cons (et_int 5) (ea_cons (et_str "ninechars") (ea_cons (en_lst (ea_cons (et_str "a") ea_nil)).t (ea_cons (et_bl true) (ea_cons (et_str "a b") (ea_cons (et_str "a1") (ea_cons (et_str "a{") ea_nil))))))))))).t ea_nil)))) es_nil) (es_seq (es_if (eb_test (et_op o_lt (et_var 1).x (et_int 3).x)) (es_ret (et_cal mo_pickW (fun _ => .nil) (ea_cons (et_var 0) (ea_cons (en_lst (ea_cons et_non (ea_cons (et_str "ab") (ea_cons (et_int 5) (ea_cons (en_lst (ea_cons (et_str "a") (ea_cons (et_str "a") ea_nil))).t (ea_cons (en_lst (ea_cons et_non ea_nil)).t (ea_cons (en_lst (ea_cons (et_str "A") ea_nil)).t (ea_cons (en_lst (ea_cons (en_lst (ea_cons (et_str "a") ea_nil)).t ea_nil)).t (ea_cons en_dnew.t (ea_cons (et_tup (ea_cons (et_str "a") ea_nil)) (ea_cons (en_lst ea_nil).t (ea_cons (en_lst (ea_cons (et_str "old.a") ea_nil)).t ea_nil)))))))))))).t ea_nil)))) es_nil) (es_seq (es_asg (et_cal mo_pickW (fun _ => .nil) (ea_cons (et_var 0) (ea_cons (en_lst (ea_cons (et_tup (ea_cons (en_lst (ea_cons (et_str "a") ea_nil)).t (ea_cons (et_int 0) (ea_cons (et_int 4) ea_nil)))) (ea_cons (et_tup (ea_cons (en_lst (ea_cons (et_str "a") ea_nil)).t (ea_cons (et_neg (et_int 1)) (ea_cons et_non ea_nil)))) (ea_cons (et_tup (ea_cons (en_lst (ea_cons (et_str "a") ea_nil)).t (ea_cons (et_int 0) (ea_cons (et_bl true) ea_nil)))) (ea_cons (et_tup (ea_cons (en_lst ea_nil).t (ea_cons (et_int 0) (ea_cons (et_int 1) ea_nil)))) (ea_cons (et_tup (ea_cons (en_lst (ea_cons (et_str "a") (ea_cons (et_str "a") ea_nil))).t (ea_cons (et_int 0) (ea_cons (et_int 1) ea_nil)))) ea_nil)))))).t ea_nil))) (eg_name 2)) (es_seq (es_asg (et_cal mo_pickW (fun _ => .nil) (ea_cons (et_var 0) (ea_cons (en_lst (ea_cons (et_var 2) (ea_cons (et_tup (ea_cons (en_lst (ea_cons (et_str "a.b") ea_nil)).t (ea_cons (et_int 0) (ea_cons (et_int 1) ea_nil)))) (ea_cons (et_tup (ea_cons (en_lst (ea_cons (et_str "a") ea_nil)).t (ea_cons (et_int 0) ea_nil))) (ea_cons (et_tup (ea_cons (et_str "a") (ea_cons (et_int 0) (ea_cons (et_int 1) ea_nil)))) (ea_cons et_non (ea_cons (et_tup (ea_cons (en_lst (ea_cons (et_str "a") ea_nil)).t (ea_cons (et_str "0") (ea_cons (et_int 1) ea_nil)))) (ea_cons (et_tup (ea_cons (en_lst (ea_cons (et_str "a") ea_nil)).t (ea_cons (et_int 3) (ea_cons (et_int 0) ea_nil)))) ea_nil)))))))).t ea_nil))) (eg_name 2)) (es_seq (es_asg (et_cal mo_pickW (fun _ => .nil) (ea_cons (et_var 0) (ea_cons (en_lst (ea_cons (et_var 2) (ea_cons (et_var 2) (ea_cons (et_var 2) (ea_cons (et_tup (ea_cons (en_lst (ea_cons (en_lst (ea_cons (et_str "a") ea_nil)).t ea_nil)).t (ea_cons (et_int 0) (ea_cons (et_int 1) ea_nil)))) (ea_cons (et_tup (ea_cons (en_lst (ea_cons en_dnew.t ea_nil)).t (ea_cons (et_int 0) (ea_cons (et_int 1) ea_nil)))) (ea_cons (et_tup (ea_cons (en_lst (ea_cons et_non (ea_cons (et_str "a") ea_nil))).t (ea_cons (et_int 0) (ea_cons (et_int 1) ea_nil)))) (ea_cons (et_tup (ea_cons (en_lst (ea_cons (et_str "a") (ea_cons (et_int 5) ea_nil))).t (ea_cons (et_int 0) (ea_cons (et_int 1) ea_nil)))) ea_nil)))))))).t ea_nil))) (eg_name 2)) (es_seq (es_asg (et_cal mo_pickW (fun _ => .nil) (ea_cons (et_var 0) (ea_cons (en_lst (ea_cons (et_str "refused") (ea_cons et_non (ea_cons (et_int 5) (ea_cons (et_tup (ea_cons (et_str "add") (ea_cons (et_str "a") ea_nil))) (ea_cons (et_tup (ea_cons (et_str "add") (ea_cons (et_str "a") (ea_cons (et_int 5) ea_nil)))) (ea_cons (et_tup (ea_cons (et_str "sub") (ea_cons (et_str "a") (ea_cons (et_form1 en_dnew.t) ea_nil)))) (ea_cons en_dnew.t (ea_cons (en_lst ea_nil).t ea_nil))))))))).t ea_nil))) (eg_name 3)) (es_seq (es_asg (et_cal mo_pickW (fun _ => .nil) (ea_cons (et_var 0) (ea_cons (en_lst (ea_cons (et_var 3) (ea_cons (et_tup (ea_cons (et_str "set") (ea_cons (et_str "A") (ea_cons (et_form1 en_dnew.t) ea_nil)))) (ea_cons (et_tup (ea_cons (et_str "add") (ea_cons (et_str "a") (ea_cons (et_form1 en_dnew.t) (ea_cons (et_int 1) ea_nil))))) (ea_cons (et_tup (ea_cons et_non (ea_cons (et_str "a") (ea_cons (et_form1 en_dnew.t) ea_nil)))) (ea_cons (et_str "refuse") ea_nil)))))).t ea_nil))) (eg_name 3)) (es_seq (es_asg (et_if (eb_test (et_op o_eq (et_var 1).x (et_int 3).x)) (et_tup (ea_cons (en_lst (ea_cons (et_str "a") (ea_cons (et_str "old.a") ea_nil))).t (ea_cons (et_int 0) (ea_cons et_non ea_nil)))) (et_tup (ea_cons (et_str "add") (ea_cons (et_str "a") (ea_cons (et_form1 (en_disp1 (et_str "a") (et_int 1)).t) ea_nil))))) (eg_name 4)) (es_seq (es_asg (en_lst (ea_cons (en_op o_rep (en_lst (ea_cons (et_var 4) ea_nil)).t.x (et_op o_addI (et_int 3).x (et_cal mo_drawW (fun _ => .nil) (ea_cons (et_var 0) (ea_cons (et_int 3) ea_nil))).x).x).t (ea_cons (en_lst (ea_cons (et_var 4) (ea_cons (et_if (eb_test (et_op o_eq (et_var 1).x (et_int 3).x)) (et_var 2) (et_var 3)) ea_nil))).t (ea_cons (en_lst (ea_cons (et_if (eb_test (et_op o_eq (et_var 1).x (et_int 3).x)) (et_var 2) (et_var 3)) ea_nil)).t ea_nil)))).t (eg_name 5)) (es_ret (et_cal mo_pickW (fun _ => .nil) (ea_cons (et_var 0) (ea_cons (en_op o_cat (et_var 5).x (en_lst (ea_cons et_non (ea_cons (et_str "ab") (ea_cons (et_int 5) (ea_cons en_dnew.t (ea_cons (et_tup ea_nil) ea_nil)))))).t.x).t ea_nil))))))))))))), fun ts n k h => h.2⟩⟩
abbrev N_Trigger___init__ : List Str := ["self", "name", "olds", "news", "tests", "deeds", "test", "deed"]
def wb_Trigger___init__ (Cs : List Addr) (C_BadTrigger : Addr) (C_Form : Addr) (C_Statement : Addr) (C_Trigger : Addr) : WS := (sSeq (sIf (bNot (wVal (wCal (wr_is_name Cs) (aCons (wVar 1) aNil) []))) (sRaise C_BadTrigger "place" (wC (.str "name"))) sNil) (sSeq (sIf (bNot (wVal (wCal (wr_is_names Cs) (aCons (wVar 2) (aCons (wC (.int 0)) (aCons (wC .non) aNil))) []))) (sRaise C_BadTrigger "place" (wC (.str "olds"))) sNil) (sSeq (sIf (bNot (wVal (wCal (wr_is_names Cs) (aCons (wVar 3) (aCons (wC (.int 0)) (aCons (wC .non) aNil))) []))) (sRaise C_BadTrigger "place" (wC (.str "news"))) sNil) (sSeq (sIf (bNot (wVal (wCal (wr_are_tests Cs) (aCons (wVar 4) aNil) []))) (sRaise C_BadTrigger "place" (wC (.str "tests"))) sNil) (sSeq (sIf (bNot (wVal (wCal (wr_are_deeds Cs C_Form C_Statement) (aCons (wVar 5) aNil) []))) (sRaise C_BadTrigger "place" (wC (.str "deeds"))) sNil) (sSeq (sFldT 0 C_Trigger "_label" (wVar 1)) (sSeq (sFldT 0 C_Trigger "_olds" (wCl fTupC (aCons (wSortQ (wVar 2)) aNil))) (sSeq (sFldT 0 C_Trigger "_news" (wCl fTupC (aCons (wSortQ (wVar 3)) aNil))) (sSeq (sFldT 0 C_Trigger "_tests" (wCl fTupC (aCons (wLc (iSeqT (wVar 4)) (wgName 6) bYes (wCal wr_kept_test (aCons (wVar 6) aNil) []) [6]) aNil))) (sFldT 0 C_Trigger "_deeds" (wCl fTupC (aCons (wLc (iSeqT (wVar 5)) (wgName 7) bYes (wCal (wr_kept_deed Cs) (aCons (wVar 7) aNil) []) [7]) aNil))))))))))))
def wr_Trigger___init__ (Cs : List Addr) (C_BadTrigger : Addr) (C_Form : Addr) (C_Statement : Addr) (C_Trigger : Addr) : WI := fun ts n kn kx => ts.length + 1 = 6 ∧ (wb_Trigger___init__ Cs C_BadTrigger C_Form C_Statement C_Trigger) (startO N_Trigger___init__ C_Trigger ts) n { nx := fun E' m => ∃ fs, E'[0]? = some (.ow (.obj C_Trigger fs)) ∧ kn fs m, rt := fun _ _ => False, ex := fun _ D fs m => kx D fs m }
set_option maxHeartbeats 4000000 in
theorem ot_Trigger___init__ {Cs : List Addr} {C_BadTrigger : Addr} {C_Form : Addr} {C_Statement : Addr} {C_Trigger : Addr} (F : FunD K "__init__" "Trigger.__init__" (defArgs s_Trigger___init__) (defBody s_Trigger___init__) (defScope s_Trigger___init__) [] [] f fd) (c_is_name : Cal P w K mg base 1 "is_name" [] (spT K (wr_is_name Cs))) (c_is_names : Cal P w K mg base 2 "is_names" [] (spT K (wr_is_names Cs))) (c_are_tests : Cal P w K mg base 6 "are_tests" [] (spT K (wr_are_tests Cs))) (c_are_deeds : Cal P w K mg base 3 "are_deeds" [] (spT K (wr_are_deeds Cs C_Form C_Statement))) (c_kept_test : Cal P w K mg base 1 "kept_test" [] (spT K wr_kept_test)) (c_kept_deed : Cal P w K mg base 2 "kept_deed" [] (spT K (wr_kept_deed Cs))) (m_sorted : mg "sorted" = none) (m_tuple : mg "tuple" = none) (cls_Trigger : Cls K C_Trigger) (na_Trigger__deeds : NoAttr K C_Trigger "_deeds") (na_Trigger__label : NoAttr K C_Trigger "_label") (na_Trigger__news : NoAttr K C_Trigger "_news") (na_Trigger__olds : NoAttr K C_Trigger "_olds") (na_Trigger__tests : NoAttr K C_Trigger "_tests") (r_BadTrigger : ErrF P w K mg base "BadTrigger" "place" C_BadTrigger) : FnOk P w K mg base (L2.CX P w) 7 f fd ["self", "name", "olds", "news", "tests", "deeds"] (spI K C_Trigger (wr_Trigger___init__ Cs C_BadTrigger C_Form C_Statement C_Trigger)) := by
  refine Tr.okI F sc_Trigger___init__ (fun ts n k k' h => h.1) fun cdv A outer s H E hr => ?_
  have nd := sc_Trigger___init__.nd
  exact ⟨_, (pss_cons (ps_if (pt_not (pt_val (pe_cal c_is_name (hr.mono (show 1 ≤ 6 by decide)) (pa_cons (pv 1) pa_nil)))) (pss_one (ps_raise rfl (takes_of rfl rfl rfl rfl) (pm_new r_BadTrigger (hr.mono (show 4 ≤ 6 by decide)) pe_str))) pss_nil) (pss_cons (ps_if (pt_not (pt_val (pe_cal c_is_names (hr.mono (show 2 ≤ 6 by decide)) (pa_cons (pv 2) (pa_cons pe_int (pa_cons pe_non pa_nil)))))) (pss_one (ps_raise rfl (takes_of rfl rfl rfl rfl) (pm_new r_BadTrigger (hr.mono (show 4 ≤ 6 by decide)) pe_str))) pss_nil) (pss_cons (ps_if (pt_not (pt_val (pe_cal c_is_names (hr.mono (show 2 ≤ 6 by decide)) (pa_cons (pv 3) (pa_cons pe_int (pa_cons pe_non pa_nil)))))) (pss_one (ps_raise rfl (takes_of rfl rfl rfl rfl) (pm_new r_BadTrigger (hr.mono (show 4 ≤ 6 by decide)) pe_str))) pss_nil) (pss_cons (ps_if (pt_not (pt_val (pe_cal c_are_tests (hr.mono (show 6 ≤ 6 by decide)) (pa_cons (pv 4) pa_nil)))) (pss_one (ps_raise rfl (takes_of rfl rfl rfl rfl) (pm_new r_BadTrigger (hr.mono (show 4 ≤ 6 by decide)) pe_str))) pss_nil) (pss_cons (ps_if (pt_not (pt_val (pe_cal c_are_deeds (hr.mono (show 3 ≤ 6 by decide)) (pa_cons (pv 5) pa_nil)))) (pss_one (ps_raise rfl (takes_of rfl rfl rfl rfl) (pm_new r_BadTrigger (hr.mono (show 4 ≤ 6 by decide)) pe_str))) pss_nil) (pss_cons (ps_fld (pv 0) (pv 1) rfl) (pss_cons (ps_fld (pv 0) (pe_callTy (r := (rTupC K)) call_tupT (by rfl) m_tuple (by decide +kernel) (pa_cons (pe_callB (r := rSortedSQ K) cr_sortedSQ (by rfl) m_sorted (by decide +kernel) (pa_cons (pv 2) pa_nil)) pa_nil)) rfl) (pss_cons (ps_fld (pv 0) (pe_callTy (r := (rTupC K)) call_tupT (by rfl) m_tuple (by decide +kernel) (pa_cons (pe_callB (r := rSortedSQ K) cr_sortedSQ (by rfl) m_sorted (by decide +kernel) (pa_cons (pv 3) pa_nil)) pa_nil)) rfl) (pss_cons (ps_fld (pv 0) (pe_callTy (r := (rTupC K)) call_tupT (by rfl) m_tuple (by decide +kernel) (pa_cons (pe_lc (own := [("test", 6)]) (g := (gName 6)) (tt := tYes) (te := (tCall (spT K wr_kept_test) [] L2.E0 (tCons (tVar 6) tNil))) rfl nd (pi_seq (pv 4)) (blkOk_by (N := N_Trigger___init__) (sc := defScope s_Trigger___init__) (by decide +kernel)) (fun _ _ _ _ _ => (pg_name (i := 6) nd rfl (by first | exact Or.inl rfl | exact Or.inr rfl))) (fun _ _ _ _ _ => pts_nil) (fun _ _ _ _ _ => (pe_cal c_kept_test (hr.mono (show 1 ≤ 6 by decide)) (pa_cons (pv 6) pa_nil)))) pa_nil)) rfl) (pss_one (ps_fld (pv 0) (pe_callTy (r := (rTupC K)) call_tupT (by rfl) m_tuple (by decide +kernel) (pa_cons (pe_lc (own := [("deed", 7)]) (g := (gName 7)) (tt := tYes) (te := (tCall (spT K (wr_kept_deed Cs)) [] L2.E0 (tCons (tVar 7) tNil))) rfl nd (pi_seq (pv 5)) (blkOk_by (N := N_Trigger___init__) (sc := defScope s_Trigger___init__) (by decide +kernel)) (fun _ _ _ _ _ => (pg_name (i := 7) nd rfl (by first | exact Or.inl rfl | exact Or.inr rfl))) (fun _ _ _ _ _ => pts_nil) (fun _ _ _ _ _ => (pe_cal c_kept_deed (hr.mono (show 2 ≤ 6 by decide)) (pa_cons (pv 7) pa_nil)))) pa_nil)) rfl))))))))))),
    fun p => ⟨(wb_Trigger___init__ Cs C_BadTrigger C_Form C_Statement C_Trigger), (es_seq (es_if (eb_not (eb_val (et_cal mo_wr_is_name (fun _ => .nil) (ea_cons (et_var 1) ea_nil)))) (es_raise r_BadTrigger.T r_BadTrigger.nf (et_str "name")) es_nil) (es_seq (es_if (eb_not (eb_val (et_cal mo_wr_is_names (fun _ => .nil) (ea_cons (et_var 2) (ea_cons (et_int 0) (ea_cons et_non ea_nil)))))) (es_raise r_BadTrigger.T r_BadTrigger.nf (et_str "olds")) es_nil) (es_seq (es_if (eb_not (eb_val (et_cal mo_wr_is_names (fun _ => .nil) (ea_cons (et_var 3) (ea_cons (et_int 0) (ea_cons et_non ea_nil)))))) (es_raise r_BadTrigger.T r_BadTrigger.nf (et_str "news")) es_nil) (es_seq (es_if (eb_not (eb_val (et_cal mo_wr_are_tests (fun _ => .nil) (ea_cons (et_var 4) ea_nil)))) (es_raise r_BadTrigger.T r_BadTrigger.nf (et_str "tests")) es_nil) (es_seq (es_if (eb_not (eb_val (et_cal mo_wr_are_deeds (fun _ => .nil) (ea_cons (et_var 5) ea_nil)))) (es_raise r_BadTrigger.T r_BadTrigger.nf (et_str "deeds")) es_nil) (es_seq (es_fld 0 cls_Trigger na_Trigger__label (et_var 1)) (es_seq (es_fld 0 cls_Trigger na_Trigger__olds (et_cl c_tup (eax_cons (en_sortQ (et_var 2).x).t.x eax_nil))) (es_seq (es_fld 0 cls_Trigger na_Trigger__news (et_cl c_tup (eax_cons (en_sortQ (et_var 3).x).t.x eax_nil))) (es_seq (es_fld 0 cls_Trigger na_Trigger__tests (et_cl c_tup (eax_cons (en_lc (eis_seq (et_var 4)).ei (eg_name 6) eb_yes (et_cal mo_wr_kept_test (fun _ => .nil) (ea_cons (et_var 6) ea_nil))).t.x eax_nil))) (es_fld 0 cls_Trigger na_Trigger__deeds (et_cl c_tup (eax_cons (en_lc (eis_seq (et_var 5)).ei (eg_name 7) eb_yes (et_cal mo_wr_kept_deed (fun _ => .nil) (ea_cons (et_var 7) ea_nil))).t.x eax_nil)))))))))))), fun ts n kn kx h => h.2⟩⟩
theorem mo_wr_Trigger___init__ {Cs : List Addr} {C_BadTrigger : Addr} {C_Form : Addr} {C_Statement : Addr} {C_Trigger : Addr} : MonoI (wr_Trigger___init__ Cs C_BadTrigger C_Form C_Statement C_Trigger) := monoI (K := ([] : PySem.W.Frag)) (p := none) (Xw := fun _ _ _ _ => False) (es_seq (es_if (eb_not (eb_val (et_cal mo_wr_is_name (fun _ => .nil) (ea_cons (et_var 1) ea_nil)))) (es_raiseM (et_str "name")) es_nil) (es_seq (es_if (eb_not (eb_val (et_cal mo_wr_is_names (fun _ => .nil) (ea_cons (et_var 2) (ea_cons (et_int 0) (ea_cons et_non ea_nil)))))) (es_raiseM (et_str "olds")) es_nil) (es_seq (es_if (eb_not (eb_val (et_cal mo_wr_is_names (fun _ => .nil) (ea_cons (et_var 3) (ea_cons (et_int 0) (ea_cons et_non ea_nil)))))) (es_raiseM (et_str "news")) es_nil) (es_seq (es_if (eb_not (eb_val (et_cal mo_wr_are_tests (fun _ => .nil) (ea_cons (et_var 4) ea_nil)))) (es_raiseM (et_str "tests")) es_nil) (es_seq (es_if (eb_not (eb_val (et_cal mo_wr_are_deeds (fun _ => .nil) (ea_cons (et_var 5) ea_nil)))) (es_raiseM (et_str "deeds")) es_nil) (es_seq (es_fldM (et_var 1)) (es_seq (es_fldM (et_cl c_tup (eax_cons (en_sortQ (et_var 2).x).t.x eax_nil))) (es_seq (es_fldM (et_cl c_tup (eax_cons (en_sortQ (et_var 3).x).t.x eax_nil))) (es_seq (es_fldM (et_cl c_tup (eax_cons (en_lc (eis_seq (et_var 4)).ei (eg_name 6) eb_yes (et_cal mo_wr_kept_test (fun _ => .nil) (ea_cons (et_var 6) ea_nil))).t.x eax_nil))) (es_fldM (et_cl c_tup (eax_cons (en_lc (eis_seq (et_var 5)).ei (eg_name 7) eb_yes (et_cal mo_wr_kept_deed (fun _ => .nil) (ea_cons (et_var 7) ea_nil))).t.x eax_nil))))))))))))
end
end Lw
/-! ## GenC -/
set_option Elab.async false
set_option linter.all false
set_option maxRecDepth 100000
set_option maxHeartbeats 4000000
namespace Lw
open PySem PySem.Spec PyProof.Rows L2 _root_.Sl Tr
section
variable {P : Program} {w : World} {K : PySem.W.Frag} {mg : Str → Option Value} {base : Heap} {f : Addr} {fd : FuncData}
abbrev N_law : List Str := ["_law_script", "_law_source_here", "_law_names_here", "_law_turn", "_law_name_here", "_law_olds", "_law_news", "_law_tests", "_law_deeds", "_law_parts", "_law_k", "_law_at", "_law_deed_here"]
def wb_law (Cs : List Addr) (C_BadTrigger : Addr) (C_Form : Addr) (C_Statement : Addr) (C_Trigger : Addr) : WS := (sSeq (sAsg (wCal namesW (aCons (wVar 1) (aCons (wC (.int 4)) aNil)) []) (wgName 2)) (sSeq (sFor (iRngT (aCons (wC (.int 4)) aNil)) (wgName 3) (sSeq (sAsg (wCal wr_l_hook (aCons (wVar 1) (aCons (w2 fIxL (wVar 2) (wC (.int 3))) (aCons (wSlL (wVar 2) wNoPart (wPart (wC (.int 2)))) (aCons (wSlL (wVar 2) (wPart (wC (.int 2))) (wPart (wC (.int 3)))) aNil)))) []) (wgTup [4, 5, 6, 7, 8])) (sSeq (sOwn (wLst (aCons (wVar 4) (aCons (wVar 5) (aCons (wVar 6) (aCons (wVar 7) (aCons (wLc (iLst (wVar 8)) (wgName 12) bYes (wCal (wr_l_made_deed C_Form C_Statement) (aCons (wVar 12) aNil) []) [12]) aNil)))))) 9) (sSeq (sFor (iRngT (aCons (wCal drawW (aCons (wVar 1) (aCons (wC (.int 4)) aNil)) []) aNil)) (wgName 10) (sSeq (sAsg (wCal drawW (aCons (wVar 1) (aCons (wC (.int 5)) aNil)) []) (wgName 11)) (sLPut 9 (wVar 11) (wCal (wr_l_odd C_Form) (aCons (wVar 1) (aCons (wVar 11) aNil)) [])))) (sFrz 9 (sIf (wVal (w2 fNe (wCal (trW C_BadTrigger C_Trigger (wr_Trigger___init__ Cs C_BadTrigger C_Form C_Statement C_Trigger) (wr_Trigger_label C_Trigger)) (aCons (wVar 9) aNil) []) (wCal (wr_l_due Cs C_Form C_Statement) (aCons (wVar 9) aNil) []))) (sRet (wC (.bl false))) sNil)))))) (sRet (wC (.bl true)))))
set_option maxHeartbeats 4000000 in
theorem ot_law {Cs : List Addr} {C_BadTrigger : Addr} {C_Form : Addr} {C_Statement : Addr} {C_Trigger : Addr} (F : FnP K "law" s_law [] f fd) (c__law_source : Cal P w K mg base 1 "_law_source" [] (sp_source K)) (c__law_names : Cal P w K mg base 3 "_law_names" [] (spT K namesW)) (c__law_hook : Cal P w K mg base 6 "_law_hook" [] (spT K wr_l_hook)) (c__law_made_deed : Cal P w K mg base 7 "_law_made_deed" [] (spT K (wr_l_made_deed C_Form C_Statement))) (c__law_draw : Cal P w K mg base 1 "_law_draw" [] (spT K drawW)) (c__law_odd : Cal P w K mg base 7 "_law_odd" [] (spT K (wr_l_odd C_Form))) (c__law_tried : Cal P w K mg base 9 "_law_tried" [] (spT K (trW C_BadTrigger C_Trigger (wr_Trigger___init__ Cs C_BadTrigger C_Form C_Statement C_Trigger) (wr_Trigger_label C_Trigger)))) (c__law_due : Cal P w K mg base 4 "_law_due" [] (spT K (wr_l_due Cs C_Form C_Statement))) (m_range : mg "range" = none) (hW : (wb_law Cs C_BadTrigger C_Form C_Statement C_Trigger) (startL N_law) 0 { nx := fun _ _ => False, rt := fun t _ => t = .bl true }) : FnOk P w K mg base CX0 10 f fd ["_law_script"] (Tr.sp_law K) := by
  refine Tr.okL F sc_law fun cdv A outer s H E hr => ?_
  have nd := sc_law.nd
  exact ⟨_, pss_cons (ps_set (i := 1) nd rfl (by first | exact Or.inl rfl | exact Or.inr rfl) (pe_cal c__law_source (hr.mono (show 1 ≤ 9 by decide)) (pa_cons (pv 0) pa_nil))) (pss_cons (ps_set (i := 2) nd rfl (by first | exact Or.inl rfl | exact Or.inr rfl) (pe_cal c__law_names (hr.mono (show 3 ≤ 9 by decide)) (pa_cons (pv 1) (pa_cons pe_int pa_nil)))) (pss_cons (ps_for PassesOwn.never rfl (pi_range1 rfl m_range (pa_cons pe_int pa_nil)) (pg_name (i := 3) nd rfl (by first | exact Or.inl rfl | exact Or.inr rfl)) (pss_cons (ps_asg (pe_cal c__law_hook (hr.mono (show 6 ≤ 9 by decide)) (pa_cons (pv 1) (pa_cons (pe_ix ix_list (pv 2) pe_int (fun _ _ => rfl)) (pa_cons (pe_slice sl_list (pv 2) po_none (po_some pe_int)) (pa_cons (pe_slice sl_list (pv 2) (po_some pe_int) (po_some pe_int)) pa_nil))))) (pg_tup rfl (pgs_cons (pg_name (i := 4) nd rfl (by first | exact Or.inl rfl | exact Or.inr rfl)) (pgs_cons (pg_name (i := 5) nd rfl (by first | exact Or.inl rfl | exact Or.inr rfl)) (pgs_cons (pg_name (i := 6) nd rfl (by first | exact Or.inl rfl | exact Or.inr rfl)) (pgs_cons (pg_name (i := 7) nd rfl (by first | exact Or.inl rfl | exact Or.inr rfl)) (pgs_cons (pg_name (i := 8) nd rfl (by first | exact Or.inl rfl | exact Or.inr rfl)) pgs_nil)))))) (by rfl)) (pss_cons (ps_set (i := 9) nd rfl (by first | exact Or.inl rfl | exact Or.inr rfl) (pe_lst (pa_cons (pv 4) (pa_cons (pv 5) (pa_cons (pv 6) (pa_cons (pv 7) (pa_cons (pe_lc (own := [("_law_deed_here", 12)]) (g := (gName 12)) (tt := tYes) (te := (tCall (spT K (wr_l_made_deed C_Form C_Statement)) [] L2.E0 (tCons (tVar 12) tNil))) rfl nd (pi_list (pv 8)) (blkOk_by (N := N_law) (sc := defScope s_law) (by decide +kernel)) (fun _ _ _ _ _ => (pg_name (i := 12) nd rfl (by first | exact Or.inl rfl | exact Or.inr rfl))) (fun _ _ _ _ _ => pts_nil) (fun _ _ _ _ _ => (pe_cal c__law_made_deed (hr.mono (show 7 ≤ 9 by decide)) (pa_cons (pv 12) pa_nil)))) pa_nil))))))) (pss_cons (ps_for PassesOwn.never rfl (pi_range1 rfl m_range (pa_cons (pe_cal c__law_draw (hr.mono (show 1 ≤ 9 by decide)) (pa_cons (pv 1) (pa_cons pe_int pa_nil))) pa_nil)) (pg_name (i := 10) nd rfl (by first | exact Or.inl rfl | exact Or.inr rfl)) (pss_cons (ps_set (i := 11) nd rfl (by first | exact Or.inl rfl | exact Or.inr rfl) (pe_cal c__law_draw (hr.mono (show 1 ≤ 9 by decide)) (pa_cons (pv 1) (pa_cons pe_int pa_nil)))) (pss_one (ps_asg (pe_cal c__law_odd (hr.mono (show 7 ≤ 9 by decide)) (pa_cons (pv 1) (pa_cons (pv 11) pa_nil))) (pg_sub (pv 9) (pv 11) set_list))))) (pss_one (ps_if (pt_cmpR (op_neD hr.units) (pe_cal c__law_tried (hr.mono (show 9 ≤ 9 by decide)) (pa_cons (pv 9) pa_nil)) (pe_cal c__law_due (hr.mono (show 4 ≤ 9 by decide)) (pa_cons (pv 9) pa_nil)) (nomark _)) (pss_one (ps_ret pe_bl)) pss_nil)))))) (pss_one (ps_ret pe_bl)))),
    fun p => ⟨(wb_law Cs C_BadTrigger C_Form C_Statement C_Trigger), fun _ _ _ _ => False, (es_seq (es_asg (et_cal mo_namesW (fun _ => .nil) (ea_cons (et_var 1) (ea_cons (et_int 4) ea_nil))) (eg_name 2)) (es_seq (es_for (eis_range1 (ea_cons (et_int 4) ea_nil)) (eg_name 3) (es_seq (es_asg (et_cal mo_wr_l_hook (fun _ => .nil) (ea_cons (et_var 1) (ea_cons (et_op o_ixL (et_var 2).x (et_int 3).x) (ea_cons (en_slL (et_var 2).x eo_none (eo_some (et_int 2))).t (ea_cons (en_slL (et_var 2).x (eo_some (et_int 2)) (eo_some (et_int 3))).t ea_nil))))) (eg_tup5 4 5 6 7 8)) (es_seq (es_own 9 (en_lst (ea_cons (et_var 4) (ea_cons (et_var 5) (ea_cons (et_var 6) (ea_cons (et_var 7) (ea_cons (en_lc (ei_list (et_var 8).x) (eg_name 12) eb_yes (et_cal mo_wr_l_made_deed (fun _ => .nil) (ea_cons (et_var 12) ea_nil))).t ea_nil))))))) (es_seq (es_for (eis_range1 (ea_cons (et_cal mo_drawW (fun _ => .nil) (ea_cons (et_var 1) (ea_cons (et_int 4) ea_nil))) ea_nil)) (eg_name 10) (es_seq (es_asg (et_cal mo_drawW (fun _ => .nil) (ea_cons (et_var 1) (ea_cons (et_int 5) ea_nil))) (eg_name 11)) (es_lput 9 (et_var 11) (et_cal mo_wr_l_odd (fun _ => .nil) (ea_cons (et_var 1) (ea_cons (et_var 11) ea_nil)))))) (es_frz 9 (es_if (eb_test (et_op o_ne (et_cal (mo_trW mo_wr_Trigger___init__ mo_wr_Trigger_label) (fun _ => .nil) (ea_cons (et_var 9) ea_nil)).x (et_cal mo_wr_l_due (fun _ => .nil) (ea_cons (et_var 9) ea_nil)).x)) (es_ret (et_bl false)) es_nil)))))) (es_ret (et_bl true)))), hW⟩⟩
end
end Lw
/-! ## Pu1 -/
set_option Elab.async false
set_option linter.all false
set_option maxRecDepth 100000
set_option maxHeartbeats 1000000
/-! Pu1: k10's small defs on trees; own work. -/
namespace Lw
open PySem PySem.Spec PyProof.Rows L2 _root_.Sl Tr
variable {Cs : List Addr} {CB CF CS CT : Addr} {n : Nat} {k : KT}
theorem optS {α : Type} (x : α) (k : α → Prop) : opt (some x) k = k x := rfl
theorem line_of {a : Nat} (h : a ≤ 1000) : a ≤ sizeLine := by rw [sizeLine_eq]; omega
theorem compL_map {We : WE} {E : En} {i : Nat} {f : T → T} : ∀ {xs acc : List T} {m : Nat} {k : KT}, (∀ x ∈ xs, ∀ m k, k (f x) m → We (E.set i (.sh x)) m k) → acc.length + xs.length ≤ sizeLine → k (.lst (acc ++ xs.map f)) m → compL (wgName i) bYes We E xs acc m k
  | [], acc, m, k, _, _, q => by
    rw [List.map_nil, List.append_nil] at q
    exact q
  | x :: xs, acc, m, k, h, l, q => by
    rw [List.length_cons] at l
    show We (E.set i (.sh x)) m fun y m2 => if acc.length < sizeLine then compL (wgName i) bYes We E xs (acc ++ [y]) m2 k else False
    refine h x List.mem_cons_self m _ ?_
    rw [if_pos (by omega)]
    refine compL_map (f := f) (fun y hy => h y (List.mem_cons_of_mem _ hy)) (by rw [List.length_append, List.length_singleton]; omega) ?_
    rw [List.append_assoc]
    exact q
theorem bools_map {g : T → Bool} : ∀ xs : List T, bools (xs.map fun x => T.bl (g x)) = some (xs.map g)
  | [] => rfl
  | x :: xs => by
    show (match T.bl (g x) with | .bl b => (bools (xs.map fun x => T.bl (g x))).map (b :: ·) | _ => none) = _
    rw [bools_map xs]
    rfl
theorem fAll_map {g : T → Bool} (xs : List T) : fAll [.lst (xs.map fun x => T.bl (g x))] = some (.bl (xs.all g)) := by
  show ((bools (xs.map fun x => T.bl (g x))).map fun bs => T.bl (bs.all id)) = _
  rw [bools_map]
  show some (T.bl ((xs.map g).all id)) = _
  rw [List.all_map]
  rfl
theorem all_of {We : WE} {E : En} {i m : Nat} {g : T → Bool} {xs : List T} {k : KT} (h : ∀ x ∈ xs, ∀ m k, k (.bl (g x)) m → We (E.set i (.sh x)) m k) (l : xs.length ≤ 1000) (q : k (.bl (xs.all g)) m) :
    compL (wgName i) bYes We E xs [] m fun t m => opt (fAll [t]) fun z => k z m := by
  refine compL_map (f := fun x => .bl (g x)) h (by rw [List.length_nil, Nat.zero_add]; exact line_of l) ?_
  rw [List.nil_append, fAll_map]
  exact q
/-! ### names -/
def nmT : T → Bool | .str z => nameB z | _ => false
structure PName (Cs : List Addr) (t : T) : Prop where
  ok : okTy Cs t = true
  sm : ∀ z, t = .str z → z.length ≤ 1000
theorem letters_of {z : Str} {E : En} {m : Nat} {k : KT} (hz : z.length ≤ 1000) (q : k (.bl (z.cps.toList.all letB)) m) (hE : 1 < E.length) :
    compL (wgName 1) bYes (w2 (fInS false) (wVar 1) (wC (.str "abcdefghijklmnopqrstuvwxyz"))) E (z.cps.toList.map fun c => .str ⟨#[c]⟩) [] m fun t m => opt (fAll [t]) fun z => k z m := by
  refine all_of (g := fun t => match t with | .str x => x.cps.toList.all letB | _ => false) (fun x hx m k q => ?_) (by rw [List.length_map, Array.length_toList]; exact hz) ?_
  · obtain ⟨c, _, rfl⟩ := List.mem_map.mp hx
    show wVar 1 (E.set 1 (.sh (.str ⟨#[c]⟩))) m fun x m' => opt (fInS false x (.str ("abcdefghijklmnopqrstuvwxyz" : Str))) fun z => k z m'
    unfold wVar
    rw [List.getElem?_set_self hE]
    have e : ([c] : List Nat).all letB = letB c := by simp
    have q : k (.bl (([c] : List Nat).all letB)) m := q
    rw [e] at q
    exact q
  · rw [List.all_map]
    have e : ((fun t => match t with | .str x => x.cps.toList.all letB | _ => false) ∘ fun c : Nat => T.str ⟨#[c]⟩) = letB := by
      funext c
      show ([c] : List Nat).all letB = letB c
      simp
    rw [e]
    exact q
theorem is_name_core {wb : WS} {N : List Str} (e : wb = wb_is_name Cs) (hN : N.length = 2) {t : T} (h : PName Cs t) (q : k (.bl (nmT t)) n) : wb (startE N [t]) n { nx := fun _ m => k .non m, rt := k } := by
  subst e
  obtain ⟨a, b, rfl⟩ : ∃ a b, N = [a, b] := by
    match N, hN with
    | [a, b], _ => exact ⟨a, b, rfl⟩
  simp only [wb_is_name, sRet, sIf, sSeq, sNil, sAsg, bOr, bAnd, bNot, wVal, wVar, wC, wIf, wAndV, wOrV, wNotV, wIsi, wCl, aCons, aNil, wCal, w2, wChain, wTup, wLst, wLc, iSeqT, iStrT, iEnumT, wM1, wSlS, wPart, wNoPart, startE, wipeE, optS, List.map_cons, List.map_nil, List.cons_append, List.nil_append, List.append_nil, List.length_cons, List.length_nil, List.getElem?_cons_zero, List.getElem?_cons_succ, List.set_cons_zero, List.set_cons_succ, List.replicate_succ, List.replicate_zero, List.any_cons, List.any_nil, Bool.or_false, if_true, Bool.false_eq_true, if_false, Nat.reduceAdd, Nat.reduceSub, Nat.add_one_sub_one, h.ok]
  cases t
  case str z =>
    have hz := h.sm z rfl
    have e1 : isT Cs (.type "str") (.str z) = true := rfl
    have e2 : fLen [.str z] = some (.int z.length) := if_pos (line_of hz)
    have q : k (.bl (decide (1 ≤ z.length) && (decide (z.length ≤ 8) && z.cps.toList.all letB))) n := q
    have c1 : decide ((1 : Int) ≤ (z.length : Nat)) = decide (1 ≤ z.length) := by rw [decide_eq_decide]; omega
    have c2 : decide (((z.length : Nat) : Int) ≤ 8) = decide (z.length ≤ 8) := by rw [decide_eq_decide]; omega
    simp only [e1, e2, optS, Bool.not_true, fI, Bool.false_eq_true, if_false, c1, c2]
    cases d1 : decide (1 ≤ z.length) with
    | false => rw [d1] at q; exact q
    | true =>
      cases d2 : decide (z.length ≤ 8) with
      | false => rw [d1, d2] at q; exact q
      | true =>
        rw [d1, d2] at q
        simp only [Bool.not_true, Bool.false_eq_true, if_false]
        refine letters_of hz q ?_
        exact Nat.lt_succ_self 1
  all_goals
    exact q
theorem is_name_of {t : T} (h : PName Cs t) (q : k (.bl (nmT t)) n) : wr_is_name Cs [t] n k := ⟨rfl, is_name_core rfl rfl h q⟩
theorem l_is_name_of {t : T} (h : PName Cs t) (q : k (.bl (nmT t)) n) : wr_l_is_name Cs [t] n k := ⟨rfl, is_name_core rfl rfl h q⟩
theorem is_list_of {t : T} (h : okTy Cs t = true) (q : k (.bl (seqT t).isSome) n) : wr_is_list Cs [t] n k := by
  refine ⟨rfl, ?_⟩
  simp only [wb_is_list, sRet, sIf, sSeq, sNil, sAsg, bOr, bAnd, bNot, wVal, wVar, wC, wIf, wAndV, wOrV, wNotV, wIsi, wCl, aCons, aNil, wCal, w2, wChain, wTup, wLst, wLc, iSeqT, iStrT, iEnumT, wM1, wSlS, wPart, wNoPart, startE, wipeE, optS, List.map_cons, List.map_nil, List.cons_append, List.nil_append, List.append_nil, List.length_cons, List.length_nil, List.getElem?_cons_zero, List.getElem?_cons_succ, List.set_cons_zero, List.set_cons_succ, List.replicate_succ, List.replicate_zero, List.any_cons, List.any_nil, Bool.or_false, if_true, Bool.false_eq_true, if_false, Nat.reduceAdd, Nat.reduceSub, Nat.add_one_sub_one, h]
  cases t <;> exact q
theorem wr_is_integer_of {t : T} (h : okTy Cs t = true) (q : k (.bl (isT Cs (.type "int") t && !isT Cs (.type "bool") t)) n) : wr_is_integer Cs [t] n k := by
  refine ⟨rfl, ?_⟩
  simp only [wb_is_integer, sRet, sIf, sSeq, sNil, sAsg, bOr, bAnd, bNot, wVal, wVar, wC, wIf, wAndV, wOrV, wNotV, wIsi, wCl, aCons, aNil, wCal, w2, wChain, wTup, wLst, wLc, iSeqT, iStrT, iEnumT, wM1, wSlS, wPart, wNoPart, startE, wipeE, optS, List.map_cons, List.map_nil, List.cons_append, List.nil_append, List.append_nil, List.length_cons, List.length_nil, List.getElem?_cons_zero, List.getElem?_cons_succ, List.set_cons_zero, List.set_cons_succ, List.replicate_succ, List.replicate_zero, List.any_cons, List.any_nil, Bool.or_false, if_true, Bool.false_eq_true, if_false, Nat.reduceAdd, Nat.reduceSub, Nat.add_one_sub_one, h]
  cases e : isT Cs (.type "int") t with
  | true => rw [e] at q; exact q
  | false => rw [e] at q; exact q
/-! ### bounds -/
def bdT : T → Bool | .int i => decide (0 ≤ i) && decide (i ≤ 3) | _ => false
theorem chain_bd {i : Int} {K0 : T → Nat → Prop} {m : Nat} (q : K0 (.bl (bdT (.int i))) m) : (match T.bl (decide (0 ≤ i)) with
    | .bl true => K0 (.bl (decide (i ≤ 3))) m
    | .bl false => K0 (.bl false) m
    | _ => False) := by
  have q : K0 (.bl (decide (0 ≤ i) && decide (i ≤ 3))) m := q
  cases d : decide (0 ≤ i) with
  | true => rw [d] at q; exact q
  | false => rw [d] at q; exact q
theorem is_bound_of {t : T} (h : okTy Cs t = true) (q : k (.bl (bdT t)) n) : wr_is_bound Cs [t] n k := by
  refine ⟨rfl, ?_⟩
  simp only [wb_is_bound, sRet, sIf, sSeq, sNil, sAsg, bOr, bAnd, bNot, wVal, wVar, wC, wIf, wAndV, wOrV, wNotV, wIsi, wCl, aCons, aNil, wCal, w2, wChain, wTup, wLst, wLc, iSeqT, iStrT, iEnumT, wM1, wSlS, wPart, wNoPart, startE, wipeE, optS, List.map_cons, List.map_nil, List.cons_append, List.nil_append, List.append_nil, List.length_cons, List.length_nil, List.getElem?_cons_zero, List.getElem?_cons_succ, List.set_cons_zero, List.set_cons_succ, List.replicate_succ, List.replicate_zero, List.any_cons, List.any_nil, Bool.or_false, if_true, Bool.false_eq_true, if_false, Nat.reduceAdd, Nat.reduceSub, Nat.add_one_sub_one]
  refine wr_is_integer_of h ?_
  cases t <;> first | exact q | exact chain_bd q
theorem l_is_bound_of {t : T} (h : okTy Cs t = true) (q : k (.bl (bdT t)) n) : wr_l_is_bound Cs [t] n k := by
  refine ⟨rfl, ?_⟩
  simp only [wb_l_is_bound, sRet, sIf, sSeq, sNil, sAsg, bOr, bAnd, bNot, wVal, wVar, wC, wIf, wAndV, wOrV, wNotV, wIsi, wCl, aCons, aNil, wCal, w2, wChain, wTup, wLst, wLc, iSeqT, iStrT, iEnumT, wM1, wSlS, wPart, wNoPart, startE, wipeE, optS, List.map_cons, List.map_nil, List.cons_append, List.nil_append, List.append_nil, List.length_cons, List.length_nil, List.getElem?_cons_zero, List.getElem?_cons_succ, List.set_cons_zero, List.set_cons_succ, List.replicate_succ, List.replicate_zero, List.any_cons, List.any_nil, Bool.or_false, if_true, Bool.false_eq_true, if_false, Nat.reduceAdd, Nat.reduceSub, Nat.add_one_sub_one, h]
  cases t <;> first | exact q | exact chain_bd q
end Lw
/-! ## Pu2 -/
set_option Elab.async false
set_option linter.all false
set_option maxRecDepth 100000
set_option maxHeartbeats 1000000
/-! Pu2: k10's names and words on trees; own work. -/
namespace Lw
open PySem PySem.Spec PyProof.Rows L2 _root_.Sl Tr
variable {Cs : List Addr} {CB CF CS CT : Addr} {n : Nat} {k : KT}
theorem fEq_int (a b : Int) : fEq (.int a) (.int b) = some (.bl (decide (a = b))) := by
  show some (T.bl (PyData.eqv (.int a) (.int b))) = _
  congr 2
theorem fNe_int (a b : Int) : fNe (.int a) (.int b) = some (.bl (!decide (a = b))) := by
  show some (T.bl (!PyData.eqv (.int a) (.int b))) = _
  congr 2
theorem inT_strs (x : Str) : ∀ xs : List Str, inT (.str x) (xs.map T.str) = decide (x ∈ xs)
  | [] => by simp [inT, inV]
  | y :: ys => by
    have ih := inT_strs x ys
    unfold inT at ih ⊢
    have e : inV (toV (.str x)) (((y :: ys).map T.str).map toV) = ((y == x) || inV (toV (.str x)) ((ys.map T.str).map toV)) := rfl
    rw [e, ih]
    by_cases h : y = x
    · subst h
      rw [beq_self_eq_true, Bool.true_or]
      exact (decide_eq_true List.mem_cons_self).symm
    · rw [beq_eq_false_iff_ne.mpr h, Bool.false_or, decide_eq_decide]
      exact ⟨fun z => List.mem_cons_of_mem _ z, fun z => (List.mem_cons.mp z).elim (fun z => absurd z.symm h) id⟩
theorem flats : ∀ xs : List Str, (xs.map T.str).all flatT = true
  | [] => rfl
  | _ :: xs => flats xs
theorem txts_map : ∀ xs : List Str, txts (xs.map T.str) = some xs
  | [] => rfl
  | x :: xs => by
    show (txts (xs.map T.str)).map (x :: ·) = _
    rw [txts_map xs]
    rfl
theorem nm_txts : ∀ {ts : List T}, ts.all nmT = true → ∃ xs : List Str, ts = xs.map T.str ∧ ∀ x ∈ xs, nameB x = true
  | [], _ => ⟨[], rfl, fun x hx => by cases hx⟩
  | t :: ts, h => by
    rw [List.all_cons, Bool.and_eq_true] at h
    obtain ⟨xs, rfl, hx⟩ := nm_txts h.2
    cases t <;> try cases h.1
    rename_i z
    refine ⟨z :: xs, rfl, fun x hx' => ?_⟩
    rcases List.mem_cons.mp hx' with rfl | h'
    · exact h.1
    · exact hx x h'
theorem cut4 (z y : Str) (hy : y.length = 4) : decide (cutS z none (some 4) = y) = Txt.startswith z y := by
  rw [starts_eq, hy]
  have hy' : y.cps.toList.length = 4 := by rw [Array.length_toList]; exact hy
  have e : (cutS z none (some 4)).cps.toList = z.cps.toList.take 4 := by
    unfold cutS
    rw [HT.sIx_none, show (some (4 : Int)) = some ((4 : Nat) : Int) from rfl, HT.sIx_nat, Nat.sub_zero, List.drop_zero, List.toList_toArray]
    rw [show z.length = z.cps.toList.length from (Array.length_toList).symm, ← List.take_take, List.take_length]
  have eq : (cutS z none (some 4) = y) ↔ z.cps.toList.take 4 = y.cps.toList := by
    rw [← e]
    constructor
    · intro h; rw [h]
    · intro h
      have := Array.toList_inj.mp h
      cases hz : cutS z none (some 4)
      cases y
      rw [hz] at this
      exact congrArg _ this
  rw [Bool.eq_iff_iff, decide_eq_true_iff, Bool.and_eq_true, decide_eq_true_iff, beq_iff_eq, eq]
  refine ⟨fun h => ⟨?_, h⟩, fun h => h.2⟩
  have := congrArg List.length h
  rw [List.length_take, hy'] at this
  have e2 : z.length = z.cps.toList.length := (Array.length_toList).symm
  omega
/-! ### words -/
def wdT : T → Bool | .str z => wordB z | _ => false
theorem cutS_len (z : Str) (lo hi : Option Int) : (cutS z lo hi).length ≤ z.length := by
  show (cutS z lo hi).cps.size ≤ z.cps.size
  unfold cutS
  rw [List.size_toArray, List.length_take, List.length_drop, Array.length_toList]
  omega
theorem is_of_lot_of {z : Str} (q : k (.bl (Txt.startswith z "old." || Txt.startswith z "new.")) n) : wr_is_of_lot [.str z] n k := by
  refine ⟨rfl, ?_⟩
  simp only [wb_is_of_lot, sRet, sIf, sSeq, sNil, sAsg, bOr, bAnd, bNot, wVal, wVar, wC, wIf, wAndV, wOrV, wNotV, wIsi, wCl, aCons, aNil, wCal, w2, wChain, wTup, wLst, wLc, iSeqT, iStrT, iEnumT, wM1, wSlS, wPart, wNoPart, startE, wipeE, optS, List.map_cons, List.map_nil, List.cons_append, List.nil_append, List.append_nil, List.length_cons, List.length_nil, List.getElem?_cons_zero, List.getElem?_cons_succ, List.set_cons_zero, List.set_cons_succ, List.replicate_succ, List.replicate_zero, List.any_cons, List.any_nil, Bool.or_false, if_true, Bool.false_eq_true, if_false, Nat.reduceAdd, Nat.reduceSub, Nat.add_one_sub_one, fStarts]
  cases d : Txt.startswith z "old." with
  | true => rw [d] at q; exact q
  | false => rw [d] at q; exact q
theorem name_in_of {z : Str} (hz : z.length ≤ 1000) (q : k (.str (nameIn z)) n) : wr_name_in [.str z] n k := by
  refine ⟨rfl, ?_⟩
  simp only [wb_name_in, sRet, sIf, sSeq, sNil, sAsg, bOr, bAnd, bNot, wVal, wVar, wC, wIf, wAndV, wOrV, wNotV, wIsi, wCl, aCons, aNil, wCal, w2, wChain, wTup, wLst, wLc, iSeqT, iStrT, iEnumT, wM1, wSlS, wPart, wNoPart, startE, wipeE, optS, List.map_cons, List.map_nil, List.cons_append, List.nil_append, List.append_nil, List.length_cons, List.length_nil, List.getElem?_cons_zero, List.getElem?_cons_succ, List.set_cons_zero, List.set_cons_succ, List.replicate_succ, List.replicate_zero, List.any_cons, List.any_nil, Bool.or_false, if_true, Bool.false_eq_true, if_false, Nat.reduceAdd, Nat.reduceSub, Nat.add_one_sub_one]
  refine is_of_lot_of ?_
  unfold nameIn at q
  cases d : (Txt.startswith z "old." || Txt.startswith z "new.") with
  | false => rw [d] at q; exact q
  | true =>
    rw [d] at q
    have e : fLen [.str ("old." : Str)] = some (.int 4) := by
      show (if (("old." : Str)).length ≤ sizeLine then some (T.int (("old." : Str)).length) else none) = _
      rw [show (("old." : Str)).length = 4 from by decide +kernel]
      exact if_pos (line_of (by decide))
    simp only [e, optS, if_true, line_of hz]
    exact q
theorem is_word_of {t : T} (h : PName Cs t) (q : k (.bl (wdT t)) n) : wr_is_word Cs [t] n k := by
  refine ⟨rfl, ?_⟩
  simp only [wb_is_word, sRet, sIf, sSeq, sNil, sAsg, bOr, bAnd, bNot, wVal, wVar, wC, wIf, wAndV, wOrV, wNotV, wIsi, wCl, aCons, aNil, wCal, w2, wChain, wTup, wLst, wLc, iSeqT, iStrT, iEnumT, wM1, wSlS, wPart, wNoPart, startE, wipeE, optS, List.map_cons, List.map_nil, List.cons_append, List.nil_append, List.append_nil, List.length_cons, List.length_nil, List.getElem?_cons_zero, List.getElem?_cons_succ, List.set_cons_zero, List.set_cons_succ, List.replicate_succ, List.replicate_zero, List.any_cons, List.any_nil, Bool.or_false, if_true, Bool.false_eq_true, if_false, Nat.reduceAdd, Nat.reduceSub, Nat.add_one_sub_one, h.ok]
  cases t
  case str z =>
    have hz := h.sm z rfl
    show wr_name_in [.str z] n _
    refine name_in_of hz (is_name_of ⟨rfl, fun y e => ?_⟩ q)
    cases e
    unfold nameIn
    split
    · exact Nat.le_trans (cutS_len _ _ _) hz
    · exact hz
  all_goals exact q
theorem l_is_word_of {t : T} (h : PName Cs t) (q : k (.bl (wdT t)) n) : wr_l_is_word Cs [t] n k := by
  refine ⟨rfl, ?_⟩
  simp only [wb_l_is_word, sRet, sIf, sSeq, sNil, sAsg, bOr, bAnd, bNot, wVal, wVar, wC, wIf, wAndV, wOrV, wNotV, wIsi, wCl, aCons, aNil, wCal, w2, wChain, wTup, wLst, wLc, iSeqT, iStrT, iEnumT, wM1, wSlS, wPart, wNoPart, startE, wipeE, optS, List.map_cons, List.map_nil, List.cons_append, List.nil_append, List.append_nil, List.length_cons, List.length_nil, List.getElem?_cons_zero, List.getElem?_cons_succ, List.set_cons_zero, List.set_cons_succ, List.replicate_succ, List.replicate_zero, List.any_cons, List.any_nil, Bool.or_false, if_true, Bool.false_eq_true, if_false, Nat.reduceAdd, Nat.reduceSub, Nat.add_one_sub_one, h.ok]
  cases t
  case str z =>
    have hz := h.sm z rfl
    have hl := line_of hz
    have e0 : isT Cs (.type "str") (.str z) = true := rfl
    have e1 : fIn false (.str (cutS z none (some 4))) (.tup [.str "old.", .str "new."]) = some (.bl (Txt.startswith z "old." || Txt.startswith z "new.")) := by
      show some (T.bl (inT (.str (cutS z none (some 4))) ([("old." : Str), "new."].map T.str))) = _
      rw [inT_strs, ← cut4 z "old." (by decide +kernel), ← cut4 z "new." (by decide +kernel)]
      congr 2
      rw [Bool.eq_iff_iff]
      simp
    have e2 : (2 : Nat) ≤ sizeLine := by decide
    simp only [e0, Bool.not_true, Bool.false_eq_true, if_false, if_true, hl, e2, e1, optS]
    have q : k (.bl (nameB (nameIn z))) n := q
    unfold nameIn at q
    cases d : (Txt.startswith z "old." || Txt.startswith z "new.") with
    | false => rw [d] at q; exact l_is_name_of h q
    | true =>
      rw [d] at q
      exact l_is_name_of ⟨rfl, fun y e => by cases e; exact Nat.le_trans (cutS_len _ _ _) hz⟩ q
  all_goals exact q
end Lw
/-! ## Pu3 -/
set_option Elab.async false
set_option linter.all false
set_option maxRecDepth 100000
set_option maxHeartbeats 1000000
/-! Pu3: k10's lists of names, of words, tests, on trees; own work. -/
namespace Lw
open PySem PySem.Spec PyProof.Rows L2 _root_.Sl Tr
variable {Cs : List Addr} {CB CF CS CT : Addr} {n : Nat} {k : KT}
structure PSeq (Cs : List Addr) (P : T → Prop) (t : T) : Prop where
  ok : okTy Cs t = true
  al : ∀ ts, seqT t = some ts → ts.length ≤ 1000 ∧ ∀ x ∈ ts, P x
  sm : ∀ ts, seqT t = some ts → ts.length ≤ 60
theorem seq_len {t : T} {ts : List T} (h : seqT t = some ts) : fLen [t] = some (.int ts.length) := by
  cases t <;> cases h <;> rfl
def difT (ts : List T) : Bool := match txts ts with | some xs => decide xs.Nodup | none => false
theorem difT_map (xs : List Str) : difT (xs.map T.str) = decide xs.Nodup := by
  unfold difT
  rw [txts_map]
theorem are_different_of {t : T} {xs : List Str} (h : seqT t = some (xs.map T.str)) (l : xs.length ≤ 1000) (q : k (.bl (decide xs.Nodup)) n) : wr_are_different [t] n k := by
  refine ⟨rfl, ?_⟩
  have c : xs.length + 1 < scanBound ∧ xs.length < 1000000 := ⟨Nat.lt_of_le_of_lt (Nat.succ_le_succ l) (by decide), by omega⟩
  simp only [wb_are_different, wLenSet, sRet, sIf, sSeq, sNil, sAsg, bOr, bAnd, bNot, wVal, wVar, wC, wIf, wAndV, wOrV, wNotV, wIsi, wCl, aCons, aNil, wCal, w2, wChain, wTup, wLst, wLc, iSeqT, iStrT, iEnumT, wM1, wSlS, wPart, wNoPart, startE, wipeE, optS, List.map_cons, List.map_nil, List.cons_append, List.nil_append, List.append_nil, List.length_cons, List.length_nil, List.getElem?_cons_zero, List.getElem?_cons_succ, List.set_cons_zero, List.set_cons_succ, List.replicate_succ, List.replicate_zero, List.any_cons, List.any_nil, Bool.or_false, if_true, Bool.false_eq_true, if_false, Nat.reduceAdd, Nat.reduceSub, Nat.add_one_sub_one, h, seq_len h, txts_map, c, and_self, fEq_int, List.length_map]
  have e : decide (((dd xs xs.length).length : Int) = (xs.length : Nat)) = decide xs.Nodup := by
    rw [decide_eq_decide, ← dd_all]
    omega
  rw [e]
  exact q
/-- all items are such, and no two alike -/
def nmsT (g : T → Bool) (t : T) : Bool := match seqT t with | some ts => ts.all g && difT ts | none => false
theorem is_names_of {t : T} (h : PSeq Cs (PName Cs) t) (q : k (.bl (nmsT nmT t)) n) : wr_is_names Cs [t, .int 0, .non] n k := by
  refine ⟨rfl, ?_⟩
  simp only [wb_is_names, sRet, sIf, sSeq, sNil, sAsg, bOr, bAnd, bNot, wVal, wVar, wC, wIf, wAndV, wOrV, wNotV, wIsi, wCl, aCons, aNil, wCal, w2, wChain, wTup, wLst, wLc, iSeqT, iStrT, iEnumT, wM1, wSlS, wPart, wNoPart, startE, wipeE, optS, List.map_cons, List.map_nil, List.cons_append, List.nil_append, List.append_nil, List.length_cons, List.length_nil, List.getElem?_cons_zero, List.getElem?_cons_succ, List.set_cons_zero, List.set_cons_succ, List.replicate_succ, List.replicate_zero, List.any_cons, List.any_nil, Bool.or_false, if_true, Bool.false_eq_true, if_false, Nat.reduceAdd, Nat.reduceSub, Nat.add_one_sub_one]
  refine is_list_of h.ok ?_
  cases hs : seqT t with
  | none =>
    unfold nmsT at q
    rw [hs] at q
    exact q
  | some ts =>
    obtain ⟨hl, ha⟩ := h.al ts hs
    have c : decide (((ts.length : Nat) : Int) < 0) = false := decide_eq_false (by omega)
    have c2 : fNotN .non .non = some (.bl false) := rfl
    unfold nmsT at q
    rw [hs] at q
    have q : k (.bl (ts.all nmT && difT ts)) n := q
    simp only [Option.isSome_some, Bool.not_true, seq_len hs, fI, c, c2, optS, Bool.false_eq_true, if_false]
    refine all_of (g := nmT) (fun x hx m k q => ?_) hl ?_
    · show wr_is_name Cs [x] m k
      exact is_name_of (ha x hx) q
    · cases d : ts.all nmT with
      | false => rw [show (ts.all nmT && difT ts) = false by rw [d]; rfl] at q; exact q
      | true =>
        obtain ⟨xs, rfl, _⟩ := nm_txts d
        rw [show ((xs.map T.str).all nmT && difT (xs.map T.str)) = decide xs.Nodup by rw [d, difT_map]; rfl] at q
        exact are_different_of hs (by rw [List.length_map] at hl; exact hl) q
/-! ### the law's way -/
def allE (g : Nat → T → Bool) : Nat → List T → Bool
  | _, [] => true
  | j, x :: xs => g j x && allE g (j + 1) xs
theorem compL_enum {We : WE} {E : En} {a b : Nat} {g : Nat → T → Bool} : ∀ {xs acc : List T} {j m : Nat} {k : KT}, (∀ i x, xs[i]? = some x → ∀ m k, k (.bl (g (j + i) x)) m → We ((E.set a (.sh (.int ((j + i : Nat))))).set b (.sh x)) m k) →
    acc.length + xs.length ≤ sizeLine → (∀ bs : List Bool, bs.length = xs.length → bs.all id = allE g j xs → k (.lst (acc ++ bs.map T.bl)) m) → compL (wgTup [a, b]) bYes We E (enumT j xs) acc m k
  | [], acc, j, m, k, _, _, q => by
    have := q [] rfl rfl
    rw [List.map_nil, List.append_nil] at this
    exact this
  | x :: xs, acc, j, m, k, h, l, q => by
    rw [List.length_cons] at l
    show We ((E.set a (.sh (.int (j : Nat)))).set b (.sh x)) m fun y m2 => if acc.length < sizeLine then compL (wgTup [a, b]) bYes We E (enumT (j + 1) xs) (acc ++ [y]) m2 k else False
    refine h 0 x rfl m _ ?_
    rw [if_pos (by omega)]
    refine compL_enum (g := g) (fun i y hy m k q => ?_) (by rw [List.length_append, List.length_singleton]; omega) fun bs e1 e2 => ?_
    · have e : j + 1 + i = j + (i + 1) := by omega
      rw [e] at q ⊢
      exact h (i + 1) y hy m k q
    · have := q (g (j + 0) x :: bs) (by rw [List.length_cons, e1, List.length_cons]) (by
        rw [List.all_cons, e2]
        rfl)
      rw [List.append_assoc]
      exact this
theorem bools_bl : ∀ bs : List Bool, bools (bs.map T.bl) = some bs
  | [] => rfl
  | b :: bs => by
    show (bools (bs.map T.bl)).map (b :: ·) = _
    rw [bools_bl bs]
    rfl
theorem allE_of {We : WE} {E : En} {a b m : Nat} {g : Nat → T → Bool} {xs : List T} {k : KT} (h : ∀ i x, xs[i]? = some x → ∀ m k, k (.bl (g i x)) m → We ((E.set a (.sh (.int (i : Nat)))).set b (.sh x)) m k) (l : xs.length ≤ 1000) (q : k (.bl (allE g 0 xs)) m) :
    compL (wgTup [a, b]) bYes We E (enumT 0 xs) [] m fun t m => opt (fAll [t]) fun z => k z m := by
  refine compL_enum (g := g) (j := 0) (fun i x hx m k q => ?_) (by rw [List.length_nil, Nat.zero_add]; exact line_of l) fun bs e1 e2 => ?_
  · rw [Nat.zero_add] at q ⊢
    exact h i x hx m k q
  · rw [List.nil_append]
    show opt ((bools (bs.map T.bl)).map fun bs => T.bl (bs.all id)) _
    rw [bools_bl, Option.map_some, e2]
    exact q
theorem allE_nodup : ∀ (ys zs : List Str), ys.Nodup → allE (fun i x => match x with | .str z => !decide (z ∈ (ys ++ zs).take i) | _ => false) ys.length (zs.map T.str) = decide (ys ++ zs).Nodup
  | ys, [], h => by
    rw [List.append_nil]
    exact (decide_eq_true h).symm
  | ys, z :: zs, h => by
    have e : ys ++ z :: zs = (ys ++ [z]) ++ zs := by rw [List.append_assoc]; rfl
    show (!decide (z ∈ (ys ++ z :: zs).take ys.length) && allE _ (ys.length + 1) (zs.map T.str)) = _
    rw [List.take_left']
    · by_cases hz : z ∈ ys
      · rw [decide_eq_true hz]
        refine (decide_eq_false fun hn => ?_).symm
        exact (List.nodup_append.mp hn).2.2 z hz z List.mem_cons_self rfl
      · rw [decide_eq_false hz, Bool.not_false, Bool.true_and]
        have hn : (ys ++ [z]).Nodup := List.nodup_append.mpr ⟨h, List.nodup_cons.mpr ⟨List.not_mem_nil, List.nodup_nil⟩, fun a ha b hb e => hz (by rw [← List.mem_singleton.mp hb, ← e]; exact ha)⟩
        have ih := allE_nodup (ys ++ [z]) zs hn
        rw [List.length_append, List.length_singleton] at ih
        rw [e]
        exact ih
    · rfl
/-- what the law asks of the k-th item -/
theorem notin_of {xs : List Str} {i : Nat} {z : Str} {y : T} {m : Nat} {k : KT} (hz : xs[i]? = some z) (hy : y = .lst (cutT (xs.map T.str) none (some (i : Nat))) ∨ y = .tup (cutT (xs.map T.str) none (some (i : Nat))))
    (q : k (.bl (!decide (z ∈ xs.take i))) m) : opt (fIn true (.str z) y) (fun z => k z m) := by
  have il : i < xs.length := (List.getElem?_eq_some_iff.mp hz).1
  have e : cutT (xs.map T.str) none (some (i : Nat)) = (xs.take i).map T.str := by
    unfold cutT
    rw [HT.sIx_none, HT.sIx_nat, Nat.sub_zero, List.drop_zero, List.length_map, Nat.min_eq_left (Nat.le_of_lt il), List.map_take]
  rw [e] at hy
  have e2 : (if flatT (.str z) && ((xs.take i).map T.str).all flatT then some (T.bl (if true then !inT (.str z) ((xs.take i).map T.str) else inT (.str z) ((xs.take i).map T.str))) else none) = some (.bl (!decide (z ∈ xs.take i))) := by
    rw [flats, inT_strs]
    rfl
  rcases hy with rfl | rfl
  · rw [show fIn true (.str z) (.lst ((xs.take i).map T.str)) = some (.bl (!decide (z ∈ xs.take i))) from e2]
    exact q
  · rw [show fIn true (.str z) (.tup ((xs.take i).map T.str)) = some (.bl (!decide (z ∈ xs.take i))) from e2]
    exact q
theorem isSeq (t : T) : (isT Cs (.type "list") t || isT Cs (.type "tuple") t) = (seqT t).isSome := by cases t <;> rfl
theorem str_txts {g : T → Bool} (hg : ∀ t, g t = true → ∃ z, t = .str z) : ∀ {ts : List T}, ts.all g = true → ∃ xs : List Str, ts = xs.map T.str
  | [], _ => ⟨[], rfl⟩
  | t :: ts, h => by
    rw [List.all_cons, Bool.and_eq_true] at h
    obtain ⟨xs, rfl⟩ := str_txts hg h.2
    obtain ⟨z, rfl⟩ := hg t h.1
    exact ⟨z :: xs, rfl⟩
theorem nm_str (t : T) (h : nmT t = true) : ∃ z, t = .str z := by
  cases t <;> first | exact ⟨_, rfl⟩ | cases h
theorem wd_str (t : T) (h : wdT t = true) : ∃ z, t = .str z := by
  cases t <;> first | exact ⟨_, rfl⟩ | cases h
/-- the law's second comprehension -/
theorem apart_of {t : T} {xs : List Str} {E : En} {a b c m : Nat} {k : KT} (hs : seqT t = some (xs.map T.str)) (l : xs.length ≤ 1000) (hc : E[c]? = some (.sh t)) (ca : a ≠ c) (cb : b ≠ c) (ab : b ≠ a) (ha : a < E.length) (hb : b < E.length) (q : k (.bl (decide xs.Nodup)) m) :
    compL (wgTup [a, b]) bYes (w2 (fIn true) (wVar b) (wSlQ (wVar c) wNoPart (wPart (wVar a)))) E (enumT 0 (xs.map T.str)) [] m fun t m => opt (fAll [t]) fun z => k z m := by
  refine allE_of (g := fun i x => match x with | .str z => !decide (z ∈ xs.take i) | _ => false) (fun i x hx m k q => ?_) (by rw [List.length_map]; exact l) ?_
  · have il : i < xs.length := by
      have := (List.getElem?_eq_some_iff.mp hx).1
      rwa [List.length_map] at this
    have g1 : ((E.set a (.sh (.int (i : Nat)))).set b (.sh x))[b]? = some (.sh x) := List.getElem?_set_self (by rw [List.length_set]; exact hb)
    have g2 : ((E.set a (.sh (.int (i : Nat)))).set b (.sh x))[a]? = some (.sh (.int (i : Nat))) := by
      rw [List.getElem?_set_ne ab]
      exact List.getElem?_set_self ha
    have g3 : ((E.set a (.sh (.int (i : Nat)))).set b (.sh x))[c]? = some (.sh t) := by
      rw [List.getElem?_set_ne cb, List.getElem?_set_ne ca]
      exact hc
    rw [List.getElem?_map] at hx
    obtain ⟨z, hz, rfl⟩ := Option.map_eq_some_iff.mp hx
    have q : k (.bl (!decide (z ∈ xs.take i))) m := q
    simp only [w2, wSlQ, wNoPart, wPart, wVar, g1, g2, g3]
    cases t <;> cases hs
    · exact notin_of hz (.inl rfl) q
    · have nw : ¬ (HT.sIx (xs.map T.str).length 0 none = 0 ∧ HT.sIx (xs.map T.str).length (xs.map T.str).length (some (i : Nat)) = (xs.map T.str).length) := fun ⟨_, h⟩ => by
        rw [HT.sIx_nat, List.length_map] at h
        omega
      show (if ¬ (HT.sIx (xs.map T.str).length 0 none = 0 ∧ HT.sIx (xs.map T.str).length (xs.map T.str).length (some (i : Nat)) = (xs.map T.str).length) then opt (fIn true (.str z) (.tup (cutT (xs.map T.str) none (some (i : Nat))))) (fun z => k z m) else False)
      rw [if_pos nw]
      exact notin_of hz (.inr rfl) q
  · have := allE_nodup [] xs List.nodup_nil
    rw [List.nil_append] at this
    rw [show allE _ 0 (xs.map T.str) = decide xs.Nodup from this]
    exact q
theorem l_are_names_of {t : T} (h : PSeq Cs (PName Cs) t) (q : k (.bl (nmsT nmT t)) n) : wr_l_are_names Cs [t] n k := by
  refine ⟨rfl, ?_⟩
  simp only [wb_l_are_names, sRet, sIf, sSeq, sNil, sAsg, bOr, bAnd, bNot, wVal, wVar, wC, wIf, wAndV, wOrV, wNotV, wIsi, wCl, aCons, aNil, wCal, w2, wChain, wTup, wLst, wLc, iSeqT, iStrT, iEnumT, wM1, wSlS, wPart, wNoPart, startE, wipeE, optS, List.map_cons, List.map_nil, List.cons_append, List.nil_append, List.append_nil, List.length_cons, List.length_nil, List.getElem?_cons_zero, List.getElem?_cons_succ, List.set_cons_zero, List.set_cons_succ, List.replicate_succ, List.replicate_zero, List.any_cons, List.any_nil, Bool.or_false, if_true, Bool.false_eq_true, if_false, Nat.reduceAdd, Nat.reduceSub, Nat.add_one_sub_one, h.ok, isSeq]
  cases hs : seqT t with
  | none =>
    unfold nmsT at q
    rw [hs] at q
    exact q
  | some ts =>
    obtain ⟨hl, ha⟩ := h.al ts hs
    unfold nmsT at q
    rw [hs] at q
    have q : k (.bl (ts.all nmT && difT ts)) n := q
    simp only [Option.isSome_some, Bool.not_true, optS, Bool.false_eq_true, if_false]
    refine all_of (g := nmT) (fun x hx m k q => ?_) hl ?_
    · show wr_l_is_name Cs [x] m k
      exact l_is_name_of (ha x hx) q
    · cases d : ts.all nmT with
      | false => rw [show (ts.all nmT && difT ts) = false by rw [d]; rfl] at q; exact q
      | true =>
        obtain ⟨xs, rfl⟩ := str_txts nm_str d
        rw [show ((xs.map T.str).all nmT && difT (xs.map T.str)) = decide xs.Nodup by rw [d, difT_map]; rfl] at q
        simp only [Bool.not_true, Bool.false_eq_true, if_false]
        exact apart_of hs (by rw [List.length_map] at hl; exact hl) rfl (by decide) (by decide) (by decide) (show 2 < 3 by decide) (show 1 < 3 by decide) q
/-! ### words -/
def wdsT (t : T) : Bool := match seqT t with | some ts => decide (1 ≤ ts.length) && (ts.all wdT && difT ts) | none => false
theorem are_words_of {t : T} (h : PSeq Cs (PName Cs) t) (q : k (.bl (wdsT t)) n) : wr_are_words Cs [t] n k := by
  refine ⟨rfl, ?_⟩
  simp only [wb_are_words, sRet, sIf, sSeq, sNil, sAsg, bOr, bAnd, bNot, wVal, wVar, wC, wIf, wAndV, wOrV, wNotV, wIsi, wCl, aCons, aNil, wCal, w2, wChain, wTup, wLst, wLc, iSeqT, iStrT, iEnumT, wM1, wSlS, wPart, wNoPart, startE, wipeE, optS, List.map_cons, List.map_nil, List.cons_append, List.nil_append, List.append_nil, List.length_cons, List.length_nil, List.getElem?_cons_zero, List.getElem?_cons_succ, List.set_cons_zero, List.set_cons_succ, List.replicate_succ, List.replicate_zero, List.any_cons, List.any_nil, Bool.or_false, if_true, Bool.false_eq_true, if_false, Nat.reduceAdd, Nat.reduceSub, Nat.add_one_sub_one]
  refine is_list_of h.ok ?_
  cases hs : seqT t with
  | none =>
    unfold wdsT at q
    rw [hs] at q
    exact q
  | some ts =>
    obtain ⟨hl, ha⟩ := h.al ts hs
    unfold wdsT at q
    rw [hs] at q
    have q : k (.bl (decide (1 ≤ ts.length) && (ts.all wdT && difT ts))) n := q
    have c : decide ((1 : Int) ≤ (ts.length : Nat)) = decide (1 ≤ ts.length) := by rw [decide_eq_decide]; omega
    simp only [Option.isSome_some, seq_len hs, fI, c, optS]
    cases d0 : decide (1 ≤ ts.length) with
    | false => rw [d0] at q; exact q
    | true =>
      rw [d0, Bool.true_and] at q
      refine all_of (g := wdT) (fun x hx m k q => ?_) hl ?_
      · show wr_is_word Cs [x] m k
        exact is_word_of (ha x hx) q
      · cases d : ts.all wdT with
        | false => rw [show (ts.all wdT && difT ts) = false by rw [d]; rfl] at q; exact q
        | true =>
          obtain ⟨xs, rfl⟩ := str_txts wd_str d
          rw [show ((xs.map T.str).all wdT && difT (xs.map T.str)) = decide xs.Nodup by rw [d, difT_map]; rfl] at q
          exact are_different_of hs (by rw [List.length_map] at hl; exact hl) q
end Lw
/-! ## Pu4 -/
set_option Elab.async false
set_option linter.all false
set_option maxRecDepth 100000
set_option maxHeartbeats 1000000
/-! Pu4: k10's tests and deeds on trees; own work. -/
namespace Lw
open PySem PySem.Spec PyProof.Rows L2 _root_.Sl Tr
variable {Cs : List Addr} {CB CF CS CT : Addr} {n : Nat} {k : KT}
structure PTest (Cs : List Addr) (t : T) : Prop where
  ok : okTy Cs t = true
  three : ∀ ts, seqT t = some ts → ts.length = 3 → ∃ a b c, t = .tup [a, b, c] ∧ PSeq Cs (PName Cs) a ∧ okTy Cs b = true ∧ okTy Cs c = true
def tsT (t : T) : Bool := match t with | .tup [a, b, c] => wdsT a && (bdT b && (isNon c || bdT c)) | _ => false
theorem ts_seq {t : T} {ts : List T} (hs : seqT t = some ts) (h : ts.length ≠ 3) : tsT t = false := by
  cases t <;> cases hs
  · rfl
  · match ts, h with
    | [], _ => rfl
    | [_], _ => rfl
    | [_, _], _ => rfl
    | [_, _, _], h => exact absurd rfl h
    | _ :: _ :: _ :: _ :: _, _ => rfl
theorem ts_none {t : T} (hs : seqT t = none) : tsT t = false := by
  cases t <;> first | rfl | cases hs
theorem int_ne (a : Nat) (b : Nat) : decide (((a : Nat) : Int) = (b : Nat)) = decide (a = b) := by rw [decide_eq_decide]; omega
theorem bounds_of {b c : T} (q : k (.bl (bdT b && (isNon c || bdT c))) n) (hb : okTy Cs b = true) (hc : okTy Cs c = true) {w : WF} (hw : ∀ {t : T} {n : Nat} {k : KT}, okTy Cs t = true → k (.bl (bdT t)) n → w [t] n k) :
    w [b] n fun t m => match t with
      | .bl true => opt (fIsN c .non) fun z => match z with
        | .bl false => w [c] m k
        | .bl true => k (.bl true) m
        | _ => False
      | .bl false => k (.bl false) m
      | _ => False := by
  refine hw hb ?_
  cases d : bdT b with
  | false => rw [d] at q; exact q
  | true =>
    rw [d, Bool.true_and] at q
    show opt (some (T.bl (isNon c))) _
    cases d2 : isNon c with
    | true => rw [d2] at q; exact q
    | false =>
      rw [d2, Bool.false_or] at q
      exact hw hc q
theorem is_test_of {t : T} (h : PTest Cs t) (q : k (.bl (tsT t)) n) : wr_is_test Cs [t] n k := by
  refine ⟨rfl, ?_⟩
  simp only [wb_is_test, sRet, sIf, sSeq, sNil, sAsg, bOr, bAnd, bNot, wVal, wVar, wC, wIf, wAndV, wOrV, wNotV, wIsi, wCl, aCons, aNil, wCal, w2, wChain, wTup, wLst, wLc, iSeqT, iStrT, iEnumT, wM1, wSlS, wPart, wNoPart, startE, wipeE, optS, List.map_cons, List.map_nil, List.cons_append, List.nil_append, List.append_nil, List.length_cons, List.length_nil, List.getElem?_cons_zero, List.getElem?_cons_succ, List.set_cons_zero, List.set_cons_succ, List.replicate_succ, List.replicate_zero, List.any_cons, List.any_nil, Bool.or_false, if_true, Bool.false_eq_true, if_false, Nat.reduceAdd, Nat.reduceSub, Nat.add_one_sub_one]
  refine is_list_of h.ok ?_
  cases hs : seqT t with
  | none => rw [ts_none hs] at q; exact q
  | some ts =>
    simp only [Option.isSome_some, Bool.not_true, seq_len hs, optS, Bool.false_eq_true, if_false]
    rw [show fNe (.int (ts.length : Nat)) (.int 3) = some (.bl (!decide (ts.length = 3))) from (fNe_int _ _).trans (by rw [show (3 : Int) = ((3 : Nat) : Int) from rfl, int_ne])]
    by_cases h3 : ts.length = 3
    · obtain ⟨a, b, c, rfl, pa, pb, pc⟩ := h.three ts hs h3
      rw [decide_eq_true h3]
      have q : k (.bl (wdsT a && (bdT b && (isNon c || bdT c)))) n := q
      show wr_are_words Cs [a] n _
      refine are_words_of pa ?_
      cases d : wdsT a with
      | false => rw [d] at q; exact q
      | true =>
        rw [d, Bool.true_and] at q
        exact bounds_of (w := wr_is_bound Cs) q pb pc (fun h q => is_bound_of h q)
    · rw [decide_eq_false h3]
      rw [ts_seq hs h3] at q
      exact q
theorem l_is_test_of {t : T} (h : PTest Cs t) (q : k (.bl (tsT t)) n) : wr_l_is_test Cs [t] n k := by
  refine ⟨rfl, ?_⟩
  simp only [wb_l_is_test, sRet, sIf, sSeq, sNil, sAsg, bOr, bAnd, bNot, wVal, wVar, wC, wIf, wAndV, wOrV, wNotV, wIsi, wCl, aCons, aNil, wCal, w2, wChain, wTup, wLst, wLc, iSeqT, iStrT, iEnumT, wM1, wSlS, wPart, wNoPart, startE, wipeE, optS, List.map_cons, List.map_nil, List.cons_append, List.nil_append, List.append_nil, List.length_cons, List.length_nil, List.getElem?_cons_zero, List.getElem?_cons_succ, List.set_cons_zero, List.set_cons_succ, List.replicate_succ, List.replicate_zero, List.any_cons, List.any_nil, Bool.or_false, if_true, Bool.false_eq_true, if_false, Nat.reduceAdd, Nat.reduceSub, Nat.add_one_sub_one, h.ok, isSeq]
  cases hs : seqT t with
  | none => rw [ts_none hs] at q; exact q
  | some ts =>
    simp only [Option.isSome_some, Bool.not_true, seq_len hs, optS, Bool.false_eq_true, if_false]
    rw [show fNe (.int (ts.length : Nat)) (.int 3) = some (.bl (!decide (ts.length = 3))) from (fNe_int _ _).trans (by rw [show (3 : Int) = ((3 : Nat) : Int) from rfl, int_ne])]
    by_cases h3 : ts.length = 3
    · obtain ⟨a, b, c, rfl, pa, pb, pc⟩ := h.three ts hs h3
      rw [decide_eq_true h3]
      have q : k (.bl (wdsT a && (bdT b && (isNon c || bdT c)))) n := q
      have i0 : fIxT (.tup [a, b, c]) (.int 0) = some a := rfl
      have i1 : fIxT (.tup [a, b, c]) (.int 1) = some b := rfl
      have i2 : fIxT (.tup [a, b, c]) (.int 2) = some c := rfl
      simp only [Bool.not_true, optS, i0, i1, i2, pa.ok, if_true, Bool.false_eq_true, if_false, isSeq, wgName, List.set_cons_zero, List.set_cons_succ, List.getElem?_cons_zero, List.getElem?_cons_succ]
      cases ha : seqT a with
      | none =>
        rw [show wdsT a = false by unfold wdsT; rw [ha]] at q
        exact q
      | some us =>
        obtain ⟨hl, hp⟩ := pa.al us ha
        rw [show wdsT a = (decide (1 ≤ us.length) && (us.all wdT && difT us)) by unfold wdsT; rw [ha]] at q
        simp only [Option.isSome_some, Bool.not_true, Bool.false_eq_true, if_false, seq_len ha, optS]
        rw [show fEq (.int (us.length : Nat)) (.int 0) = some (.bl (decide (us.length = 0))) from (fEq_int _ _).trans (by rw [show (0 : Int) = ((0 : Nat) : Int) from rfl, int_ne])]
        by_cases h0 : us.length = 0
        · rw [decide_eq_true h0]
          rw [show decide (1 ≤ us.length) = false from decide_eq_false (by omega)] at q
          exact q
        · rw [decide_eq_false h0]
          rw [show decide (1 ≤ us.length) = true from decide_eq_true (by omega), Bool.true_and] at q
          simp only [optS, Bool.false_eq_true, if_false]
          refine all_of (g := wdT) (fun x hx m k q => ?_) hl ?_
          · show wr_l_is_word Cs [x] m k
            exact l_is_word_of (hp x hx) q
          · cases d : us.all wdT with
            | false =>
              rw [show (us.all wdT && difT us) = false by rw [d]; rfl] at q
              exact q
            | true =>
              obtain ⟨xs, rfl⟩ := str_txts wd_str d
              rw [show ((xs.map T.str).all wdT && difT (xs.map T.str)) = decide xs.Nodup by rw [d, difT_map]; rfl] at q
              simp only [Bool.not_true, Bool.false_eq_true, if_false]
              refine apart_of ha (by rw [List.length_map] at hl; exact hl) rfl (by decide) (by decide) (by decide) (show 3 < 4 by decide) (show 2 < 4 by decide) ?_
              cases d2 : decide xs.Nodup with
              | false => rw [d2] at q; exact q
              | true =>
                rw [d2, Bool.true_and] at q
                exact bounds_of (w := wr_l_is_bound Cs) q pb pc (fun h q => l_is_bound_of h q)
    · rw [decide_eq_false h3]
      rw [ts_seq hs h3] at q
      exact q
end Lw
/-! ## Pu5 -/
set_option Elab.async false
set_option linter.all false
set_option maxRecDepth 100000
set_option maxHeartbeats 1000000
/-! Pu5: k10's deeds, the two sides' answers on trees; own work. -/
namespace Lw
open PySem PySem.Spec PyProof.Rows L2 _root_.Sl Tr
variable {Cs : List Addr} {CB CF CS CT : Addr} {n : Nat} {k : KT}
theorem shp_str {a : Str} (h : PyData.strOk a = true) : SeqAt.shaped (.str a) = true := by
  unfold SeqAt.shaped
  rw [show PyData.canLay0 (.str a) = PyData.strOk a by simp [PyData.canLay0], h]
  simp [PyData.depth]
theorem fEq_str {a b : Str} (ha : PyData.strOk a = true) (hb : PyData.strOk b = true) : fEq (.str a) (.str b) = some (.bl (decide (a = b))) := by
  show (if SeqAt.shaped (.str a) && SeqAt.shaped (.str b) then some (T.bl (PyData.eqv (.str a) (.str b))) else none) = _
  rw [shp_str ha, shp_str hb]
  rw [if_pos (by rfl)]
  congr 2
def vbT : T → Bool | .str z => decide (z ∈ (["add", "set"] : List Str)) | _ => false
structure PDeed (Cs : List Addr) (t : T) : Prop where
  ok : okTy Cs t = true
  so : ∀ z, t = .str z → PyData.strOk z = true
  three : ∀ ts, seqT t = some ts → ts.length = 3 → ∃ a b c, t = .tup [a, b, c] ∧ okTy Cs a = true ∧ flatT a = true ∧ PName Cs b ∧ okTy Cs c = true
def ddT (CF CS : Addr) (t : T) : Bool := match t with | .str z => decide (z = "refuse") | .obj C _ => decide (C = CS) | .tup [a, b, c] => vbT a && (nmT b && (match c with | .obj C _ => decide (C = CF) | _ => false)) | _ => false
theorem dd_seq {t : T} {ts : List T} (hs : seqT t = some ts) (h : ts.length ≠ 3) : ddT CF CS t = false := by
  cases t <;> cases hs
  · rfl
  · match ts, h with
    | [], _ => rfl
    | [_], _ => rfl
    | [_, _], _ => rfl
    | [_, _, _], h => exact absurd rfl h
    | _ :: _ :: _ :: _ :: _, _ => rfl
theorem verb_in {a : T} (hf : flatT a = true) : fIn false a (.tup [.str "add", .str "set"]) = some (.bl (vbT a)) := by
  have e : fIn false a (.tup [.str "add", .str "set"]) = some (.bl (inT a ((["add", "set"] : List Str).map T.str))) := by
    show (if flatT a && true then _ else _) = _
    rw [hf]
    rfl
  rw [e]
  cases a <;> first | rfl | (rw [inT_strs]; rfl) | cases hf
theorem two_line : (2 : Nat) ≤ sizeLine := line_of (by decide)
theorem is_verb_of {a : T} (h : okTy Cs a = true) (hf : flatT a = true) (q : k (.bl (vbT a)) n) : wr_is_verb Cs [a] n k := by
  refine ⟨rfl, ?_⟩
  simp only [wb_is_verb, sRet, sIf, sSeq, sNil, sAsg, bOr, bAnd, bNot, wVal, wVar, wC, wIf, wAndV, wOrV, wNotV, wIsi, wCl, aCons, aNil, wCal, w2, wChain, wTup, wLst, wLc, iSeqT, iStrT, iEnumT, wM1, wSlS, wPart, wNoPart, startE, wipeE, optS, List.map_cons, List.map_nil, List.cons_append, List.nil_append, List.append_nil, List.length_cons, List.length_nil, List.getElem?_cons_zero, List.getElem?_cons_succ, List.set_cons_zero, List.set_cons_succ, List.replicate_succ, List.replicate_zero, List.any_cons, List.any_nil, Bool.or_false, if_true, Bool.false_eq_true, if_false, Nat.reduceAdd, Nat.reduceSub, Nat.add_one_sub_one, h, two_line, verb_in hf]
  cases a <;> exact q
theorem isO {C : Addr} {c : T} : isT Cs (.ref C) c = (match c with | .obj D _ => decide (D = C) | _ => false) := by cases c <;> rfl
theorem is_deed_of {t : T} (h : PDeed Cs t) (q : k (.bl (ddT CF CS t)) n) : wr_is_deed Cs CF CS [t] n k := by
  refine ⟨rfl, ?_⟩
  simp only [wb_is_deed, sRet, sIf, sSeq, sNil, sAsg, bOr, bAnd, bNot, wVal, wVar, wC, wIf, wAndV, wOrV, wNotV, wIsi, wCl, aCons, aNil, wCal, w2, wChain, wTup, wLst, wLc, iSeqT, iStrT, iEnumT, wM1, wSlS, wPart, wNoPart, startE, wipeE, optS, List.map_cons, List.map_nil, List.cons_append, List.nil_append, List.append_nil, List.length_cons, List.length_nil, List.getElem?_cons_zero, List.getElem?_cons_succ, List.set_cons_zero, List.set_cons_succ, List.replicate_succ, List.replicate_zero, List.any_cons, List.any_nil, Bool.or_false, if_true, Bool.false_eq_true, if_false, Nat.reduceAdd, Nat.reduceSub, Nat.add_one_sub_one, h.ok]
  cases hs : seqT t with
  | none =>
    cases t
    case lst => cases hs
    case tup => cases hs
    case str z =>
      show opt (fEq (.str z) (.str "refuse")) _
      rw [fEq_str (h.so z rfl) (by decide +kernel)]
      exact q
    all_goals exact is_list_of h.ok q
  | some ts =>
    have e : isT Cs (.type "str") t = false := by cases t <;> first | rfl | cases hs
    simp only [e, Bool.false_eq_true, if_false]
    refine is_list_of h.ok ?_
    simp only [hs, Option.isSome_some, seq_len hs, optS, if_true]
    rw [show fEq (.int (ts.length : Nat)) (.int 3) = some (.bl (decide (ts.length = 3))) from (fEq_int _ _).trans (by rw [show (3 : Int) = ((3 : Nat) : Int) from rfl, int_ne])]
    by_cases h3 : ts.length = 3
    · obtain ⟨a, b, c, rfl, pa, fa, pb, pc⟩ := h.three ts hs h3
      rw [decide_eq_true h3]
      have q : k (.bl (vbT a && (nmT b && isT Cs (.ref CF) c))) n := by rw [isO]; exact q
      show wr_is_verb Cs [a] n _
      refine is_verb_of pa fa ?_
      cases d : vbT a with
      | false => rw [d] at q; exact q
      | true =>
        rw [d, Bool.true_and] at q
        show wr_is_name Cs [b] n _
        refine is_name_of pb ?_
        cases d2 : nmT b with
        | false => rw [d2] at q; exact q
        | true =>
          rw [d2, Bool.true_and] at q
          show (if okTy Cs c = true then _ else False)
          rw [if_pos pc]
          exact q
    · rw [decide_eq_false h3]
      rw [dd_seq hs h3] at q
      exact q
theorem l_is_deed_of {t : T} (h : PDeed Cs t) (q : k (.bl (ddT CF CS t)) n) : wr_l_is_deed Cs CF CS [t] n k := by
  refine ⟨rfl, ?_⟩
  simp only [wb_l_is_deed, sRet, sIf, sSeq, sNil, sAsg, bOr, bAnd, bNot, wVal, wVar, wC, wIf, wAndV, wOrV, wNotV, wIsi, wCl, aCons, aNil, wCal, w2, wChain, wTup, wLst, wLc, iSeqT, iStrT, iEnumT, wM1, wSlS, wPart, wNoPart, startE, wipeE, optS, List.map_cons, List.map_nil, List.cons_append, List.nil_append, List.append_nil, List.length_cons, List.length_nil, List.getElem?_cons_zero, List.getElem?_cons_succ, List.set_cons_zero, List.set_cons_succ, List.replicate_succ, List.replicate_zero, List.any_cons, List.any_nil, Bool.or_false, if_true, Bool.false_eq_true, if_false, Nat.reduceAdd, Nat.reduceSub, Nat.add_one_sub_one, h.ok, isSeq]
  cases hs : seqT t with
  | none =>
    cases t
    case lst => cases hs
    case tup => cases hs
    case str z =>
      show opt (fEq (.str z) (.str "refuse")) _
      rw [fEq_str (h.so z rfl) (by decide +kernel)]
      exact q
    case obj C fs =>
      have q : k (.bl (decide (C = CS))) n := q
      have e : isT Cs (.ref CS) (.obj C fs) = decide (C = CS) := rfl
      simp only [e]
      cases d : decide (C = CS) with
      | true => rw [d] at q; exact q
      | false => rw [d] at q; exact q
    all_goals exact q
  | some ts =>
    have e : isT Cs (.type "str") t = false := by cases t <;> first | rfl | cases hs
    have e' : isT Cs (.ref CS) t = false := by cases t <;> first | rfl | cases hs
    simp only [e, e', Option.isSome_some, Bool.not_true, seq_len hs, Bool.false_eq_true, if_false, optS]
    rw [show fNe (.int (ts.length : Nat)) (.int 3) = some (.bl (!decide (ts.length = 3))) from (fNe_int _ _).trans (by rw [show (3 : Int) = ((3 : Nat) : Int) from rfl, int_ne])]
    by_cases h3 : ts.length = 3
    · obtain ⟨a, b, c, rfl, pa, fa, pb, pc⟩ := h.three ts hs h3
      rw [decide_eq_true h3]
      have q : k (.bl (vbT a && (nmT b && isT Cs (.ref CF) c))) n := by rw [isO]; exact q
      have i0 : fIxT (.tup [a, b, c]) (.int 0) = some a := rfl
      have i1 : fIxT (.tup [a, b, c]) (.int 1) = some b := rfl
      have i2 : fIxT (.tup [a, b, c]) (.int 2) = some c := rfl
      simp only [Bool.not_true, optS, i0, i1, i2, Bool.false_eq_true, if_false, if_true, two_line, verb_in fa, pc]
      cases d : vbT a with
      | false => rw [d] at q; exact q
      | true =>
        rw [d, Bool.true_and] at q
        refine l_is_name_of pb ?_
        cases d2 : nmT b with
        | false => rw [d2] at q; exact q
        | true =>
          rw [d2, Bool.true_and] at q
          exact q
    · rw [decide_eq_false h3]
      rw [dd_seq hs h3] at q
      exact q
/-! ### the rows of tests and deeds -/
def rowT (m : Nat) (g : T → Bool) (t : T) : Bool := match seqT t with | some ts => decide (ts.length ≤ m) && ts.all g | none => false
theorem are_tests_of {t : T} (h : PSeq Cs (PTest Cs) t) (q : k (.bl (rowT 3 tsT t)) n) : wr_are_tests Cs [t] n k := by
  refine ⟨rfl, ?_⟩
  simp only [wb_are_tests, sRet, sIf, sSeq, sNil, sAsg, bOr, bAnd, bNot, wVal, wVar, wC, wIf, wAndV, wOrV, wNotV, wIsi, wCl, aCons, aNil, wCal, w2, wChain, wTup, wLst, wLc, iSeqT, iStrT, iEnumT, wM1, wSlS, wPart, wNoPart, startE, wipeE, optS, List.map_cons, List.map_nil, List.cons_append, List.nil_append, List.append_nil, List.length_cons, List.length_nil, List.getElem?_cons_zero, List.getElem?_cons_succ, List.set_cons_zero, List.set_cons_succ, List.replicate_succ, List.replicate_zero, List.any_cons, List.any_nil, Bool.or_false, if_true, Bool.false_eq_true, if_false, Nat.reduceAdd, Nat.reduceSub, Nat.add_one_sub_one]
  refine is_list_of h.ok ?_
  unfold rowT at q
  cases hs : seqT t with
  | none => rw [hs] at q; exact q
  | some ts =>
    obtain ⟨hl, ha⟩ := h.al ts hs
    rw [hs] at q
    have q : k (.bl (decide (ts.length ≤ 3) && ts.all tsT)) n := q
    have c : decide (((ts.length : Nat) : Int) ≤ 3) = decide (ts.length ≤ 3) := by rw [decide_eq_decide]; omega
    simp only [Option.isSome_some, seq_len hs, fI, c, optS]
    cases d : decide (ts.length ≤ 3) with
    | false => rw [d] at q; exact q
    | true =>
      rw [d, Bool.true_and] at q
      exact all_of (g := tsT) (fun x hx m k q => is_test_of (ha x hx) q) hl q
theorem are_deeds_of {t : T} (h : PSeq Cs (PDeed Cs) t) (q : k (.bl (rowT 4 (ddT CF CS) t)) n) : wr_are_deeds Cs CF CS [t] n k := by
  refine ⟨rfl, ?_⟩
  simp only [wb_are_deeds, sRet, sIf, sSeq, sNil, sAsg, bOr, bAnd, bNot, wVal, wVar, wC, wIf, wAndV, wOrV, wNotV, wIsi, wCl, aCons, aNil, wCal, w2, wChain, wTup, wLst, wLc, iSeqT, iStrT, iEnumT, wM1, wSlS, wPart, wNoPart, startE, wipeE, optS, List.map_cons, List.map_nil, List.cons_append, List.nil_append, List.append_nil, List.length_cons, List.length_nil, List.getElem?_cons_zero, List.getElem?_cons_succ, List.set_cons_zero, List.set_cons_succ, List.replicate_succ, List.replicate_zero, List.any_cons, List.any_nil, Bool.or_false, if_true, Bool.false_eq_true, if_false, Nat.reduceAdd, Nat.reduceSub, Nat.add_one_sub_one]
  refine is_list_of h.ok ?_
  unfold rowT at q
  cases hs : seqT t with
  | none => rw [hs] at q; exact q
  | some ts =>
    obtain ⟨hl, ha⟩ := h.al ts hs
    rw [hs] at q
    have q : k (.bl (decide (ts.length ≤ 4) && ts.all (ddT CF CS))) n := q
    have c : decide (((ts.length : Nat) : Int) ≤ 4) = decide (ts.length ≤ 4) := by rw [decide_eq_decide]; omega
    simp only [Option.isSome_some, seq_len hs, fI, c, optS]
    cases d : decide (ts.length ≤ 4) with
    | false => rw [d] at q; exact q
    | true =>
      rw [d, Bool.true_and] at q
      exact all_of (g := ddT CF CS) (fun x hx m k q => is_deed_of (ha x hx) q) hl q
end Lw
/-! ## Pu6 -/
set_option Elab.async false
set_option linter.all false
set_option maxRecDepth 100000
set_option maxHeartbeats 2000000
/-! Pu6: k10's law side's answer on trees; own work. -/
namespace Lw
open PySem PySem.Spec PyProof.Rows L2 _root_.Sl Tr
variable {Cs : List Addr} {CB CF CS CT : Addr} {n : Nat} {k : KT}
def badsOf (ps : List (Str × Bool)) : List Str := (ps.filter fun p => !p.2).map (·.1)
theorem compL_zip {E : En} (h8 : 8 < E.length) (h9 : 9 < E.length) : ∀ {ps : List (Str × Bool)} {acc : List T} {m : Nat} {k : KT}, acc.length + ps.length ≤ 1000 → k (.lst (acc ++ (badsOf ps).map T.str)) m →
    compL (wgTup [8, 9]) (bNot (wVal (wVar 9))) (wVar 8) E (zipT (ps.map fun p => .str p.1) (ps.map fun p => .bl p.2)) acc m k
  | [], acc, m, k, _, q => by
    have q : k (.lst (acc ++ [])) m := q
    rw [List.append_nil] at q
    exact q
  | (s, b) :: ps, acc, m, k, l, q => by
    rw [List.length_cons] at l
    show opt (some ((E.set 8 (.sh (.str s))).set 9 (.sh (.bl b)))) fun E' => (bNot (wVal (wVar 9))) E' m fun c m1 => if c = true then wVar 8 E' m1 fun y m2 => if acc.length < sizeLine then compL (wgTup [8, 9]) (bNot (wVal (wVar 9))) (wVar 8) E (zipT (ps.map fun p => .str p.1) (ps.map fun p => .bl p.2)) (acc ++ [y]) m2 k else False else compL (wgTup [8, 9]) (bNot (wVal (wVar 9))) (wVar 8) E (zipT (ps.map fun p => .str p.1) (ps.map fun p => .bl p.2)) acc m1 k
    have g9 : ((E.set 8 (.sh (.str s))).set 9 (.sh (.bl b)))[9]? = some (.sh (.bl b)) := List.getElem?_set_self (by rw [List.length_set]; exact h9)
    have g8 : ((E.set 8 (.sh (.str s))).set 9 (.sh (.bl b)))[8]? = some (.sh (.str s)) := by
      rw [List.getElem?_set_ne (by decide)]
      exact List.getElem?_set_self h8
    simp only [optS, bNot, wVal, wVar, g8, g9]
    cases b with
    | true =>
      simp only [Bool.not_true, Bool.false_eq_true, if_false]
      exact compL_zip h8 h9 (by omega) q
    | false =>
      have c : acc.length < sizeLine := Nat.lt_of_lt_of_le (show acc.length < 1000 by omega) (by rw [sizeLine_eq]; omega)
      simp only [Bool.not_false, if_true, c]
      refine compL_zip h8 h9 (by rw [List.length_append, List.length_singleton]; omega) ?_
      rw [List.append_assoc]
      exact q
theorem data_strs : ∀ L : List Str, dataAll (L.map T.str) = some (L.map PyData.str)
  | [] => rfl
  | x :: L => by
    show ((data (.str x)).bind fun d => (dataAll (L.map T.str)).map fun ds => d :: ds) = _
    rw [data_strs L]
    rfl
theorem shp_strs {L : List Str} (h : ∀ x ∈ L, PyData.strOk x = true) : SeqAt.shaped (.list (L.map PyData.str)) = true := by
  unfold SeqAt.shaped
  rw [show PyData.canLay0 (.list (L.map PyData.str)) = PyData.canLayAll0 (L.map PyData.str) by simp [PyData.canLay0], lay_strs L h, Bool.true_and]
  refine decide_eq_true ?_
  have := deep_strs L
  simp only [PyData.depth]
  omega
theorem fNe_nil {L : List Str} (h : ∀ x ∈ L, PyData.strOk x = true) : fNe (.lst (L.map T.str)) (.lst []) = some (.bl (!L.isEmpty)) := by
  show (((dataAll (L.map T.str)).map PyData.list).bind fun d => (some (PyData.list [])).bind fun e => if SeqAt.shaped d && SeqAt.shaped e then some (T.bl (!PyData.eqv d e)) else none) = _
  rw [data_strs]
  show (if SeqAt.shaped (.list (L.map PyData.str)) && SeqAt.shaped (.list ([].map PyData.str)) then some (T.bl (!PyData.eqv (.list (L.map PyData.str)) (.list []))) else none) = _
  rw [shp_strs h, shp_strs (L := []) (fun x hx => by cases hx)]
  rw [if_pos (by rfl)]
  cases L with
  | nil => simp [PyData.eqv, PyData.eqvAll]
  | cons x r => simp [PyData.eqv, PyData.eqvAll]
def five (CF CS : Addr) (a b c d e : T) : List (Str × Bool) := [("name", nmT a), ("olds", nmsT nmT b), ("news", nmsT nmT c), ("tests", rowT 3 tsT d), ("deeds", rowT 4 (ddT CF CS) e)]
def dueT (CF CS : Addr) (a b c d e : T) : T := match badsOf (five CF CS a b c d e) with | s :: _ => .tup [.str "bad", .str s] | [] => .tup [.str "told", a]
structure P5 (Cs : List Addr) (a b c d e : T) : Prop where
  a : PName Cs a
  b : PSeq Cs (PName Cs) b
  c : PSeq Cs (PName Cs) c
  d : PSeq Cs (PTest Cs) d
  e : PSeq Cs (PDeed Cs) e
theorem row_of {t : T} {N M : Nat} {g : T → Bool} {We : WE} {E : En} {i s : Nat} (ok : okTy Cs t = true) (sm : ∀ ts, seqT t = some ts → ts.length ≤ 1000) (hs : E[s]? = some (.sh t)) (hM : M = N + 1) (h : ∀ ts, seqT t = some ts → ∀ x ∈ ts, ∀ m k, k (.bl (g x)) m → We ((wipeE E [i]).set i (.sh x)) m k) (q : k (.bl (rowT N g t)) n) :
    (wAndV (wIsi Cs [(.type "list"), (.type "tuple")] (wVar s)) (wAndV (w2 (fI fun i j => .bl (decide (i < j))) (wCl fLen (aCons (wVar s) aNil)) (wC (.int (M : Nat)))) (wCl fAll (aCons (wLc (iSeqT (wVar s)) (wgName i) bYes We [i]) aNil)))) E n k := by
  unfold rowT at q
  simp only [wAndV, wIsi, wVar, hs, ok, if_true, List.any_cons, List.any_nil, Bool.or_false, isSeq]
  cases e : seqT t with
  | none => rw [e] at q; exact q
  | some ts =>
    rw [e] at q
    have q : k (.bl (decide (ts.length ≤ N) && ts.all g)) n := q
    have c : decide (((ts.length : Nat) : Int) < ((M : Nat) : Int)) = decide (ts.length ≤ N) := by rw [decide_eq_decide]; omega
    simp only [Option.isSome_some, w2, wCl, aCons, aNil, wVar, hs, seq_len e, wC, fI, c, optS, wLc, iSeqT, e]
    cases d : decide (ts.length ≤ N) with
    | false => rw [d] at q; exact q
    | true =>
      rw [d, Bool.true_and] at q
      exact all_of (g := g) (h ts e) (sm ts e) q
theorem due_of {a b c d e : T} (h : P5 Cs a b c d e) (q : k (dueT CF CS a b c d e) n) : wr_l_due Cs CF CS [.lst [a, b, c, d, e]] n k := by
  refine ⟨rfl, ?_⟩
  have i0 : fIxL (.lst [a, b, c, d, e]) (.int 0) = some a := rfl
  have i1 : fIxL (.lst [a, b, c, d, e]) (.int 1) = some b := rfl
  have i2 : fIxL (.lst [a, b, c, d, e]) (.int 2) = some c := rfl
  have i3 : fIxL (.lst [a, b, c, d, e]) (.int 3) = some d := rfl
  have i4 : fIxL (.lst [a, b, c, d, e]) (.int 4) = some e := rfl
  have l3 : (3 : Nat) ≤ sizeLine := line_of (by decide)
  have l5 : (5 : Nat) ≤ sizeLine := line_of (by decide)
  have l0 : (0 : Nat) ≤ sizeLine := Nat.zero_le _
  have p3 : (3 : Nat) < sizeLine := Nat.lt_of_lt_of_le (show 3 < 1000 by decide) (line_of (by decide))
  have p4 : (4 : Nat) < sizeLine := Nat.lt_of_lt_of_le (show 4 < 1000 by decide) (line_of (by decide))
  have hT : ∀ {E : En} {n : Nat} {k : KT}, E[2]? = some (.sh d) → E.length = 10 → k (.bl (rowT 3 tsT d)) n → (wAndV (wIsi Cs [(.type "list"), (.type "tuple")] (wVar 2)) (wAndV (w2 (fI fun i j => .bl (decide (i < j))) (wCl fLen (aCons (wVar 2) aNil)) (wC (.int 4))) (wCl fAll (aCons (wLc (iSeqT (wVar 2)) (wgName 6) bYes (wCal (wr_l_is_test Cs) (aCons (wVar 6) aNil) []) [6]) aNil)))) E n k := fun {E n k} h2 hl q => by
    refine row_of (s := 2) (i := 6) (N := 3) (M := 4) (g := tsT) h.d.ok (fun ts e => (h.d.al ts e).1) h2 rfl (fun ts e x hx m k q => ?_) q
    have g : ((wipeE E [6]).set 6 (.sh x))[6]? = some (.sh x) := List.getElem?_set_self (by show 6 < (List.set _ _ _).length; rw [List.length_set]; show 6 < E.length; omega)
    simp only [wCal, aCons, aNil, wVar, g]
    exact l_is_test_of ((h.d.al ts e).2 x hx) q
  have hD : ∀ {E : En} {n : Nat} {k : KT}, E[3]? = some (.sh e) → E.length = 10 → k (.bl (rowT 4 (ddT CF CS) e)) n → (wAndV (wIsi Cs [(.type "list"), (.type "tuple")] (wVar 3)) (wAndV (w2 (fI fun i j => .bl (decide (i < j))) (wCl fLen (aCons (wVar 3) aNil)) (wC (.int 5))) (wCl fAll (aCons (wLc (iSeqT (wVar 3)) (wgName 7) bYes (wCal (wr_l_is_deed Cs CF CS) (aCons (wVar 7) aNil) []) [7]) aNil)))) E n k := fun {E n k} h2 hl q => by
    refine row_of (s := 3) (i := 7) (N := 4) (M := 5) (g := ddT CF CS) h.e.ok (fun ts e => (h.e.al ts e).1) h2 rfl (fun ts e x hx m k q => ?_) q
    have g : ((wipeE E [7]).set 7 (.sh x))[7]? = some (.sh x) := List.getElem?_set_self (by show 7 < (List.set _ _ _).length; rw [List.length_set]; show 7 < E.length; omega)
    simp only [wCal, aCons, aNil, wVar, g]
    exact l_is_deed_of ((h.e.al ts e).2 x hx) q
  have hZ : ∀ {E : En} {n : Nat} {k : KT} {bs : List (Str × Bool)}, E[4]? = some (.sh (.lst (bs.map fun p => .str p.1))) → E[1]? = some (.sh (.lst (bs.map fun p => .bl p.2))) → E.length = 10 → bs.length ≤ 1000 → k (.lst ((badsOf bs).map T.str)) n →
      (wLc (iZipT (wVar 4) (wVar 1)) (wgTup [8, 9]) (bNot (wVal (wVar 9))) (wVar 8) [8, 9]) E n k := fun {E n k bs} h4 h1 hl hb q => by
    simp only [wLc, iZipT, wVar, h4, h1, lsT, optS]
    refine compL_zip ?_ ?_ (by rw [List.length_nil, Nat.zero_add]; exact hb) (by rw [List.nil_append]; exact q)
    · show 8 < ((E.set 9 Sl.no).set 8 Sl.no).length
      rw [List.length_set, List.length_set, hl]; decide
    · show 9 < ((E.set 9 Sl.no).set 8 Sl.no).length
      rw [List.length_set, List.length_set, hl]; decide
  unfold wb_l_due
  generalize (wAndV (wIsi Cs [(.type "list"), (.type "tuple")] (wVar 2)) (wAndV (w2 (fI fun i j => .bl (decide (i < j))) (wCl fLen (aCons (wVar 2) aNil)) (wC (.int 4))) (wCl fAll (aCons (wLc (iSeqT (wVar 2)) (wgName 6) bYes (wCal (wr_l_is_test Cs) (aCons (wVar 6) aNil) []) [6]) aNil)))) = WT at hT ⊢
  generalize (wAndV (wIsi Cs [(.type "list"), (.type "tuple")] (wVar 3)) (wAndV (w2 (fI fun i j => .bl (decide (i < j))) (wCl fLen (aCons (wVar 3) aNil)) (wC (.int 5))) (wCl fAll (aCons (wLc (iSeqT (wVar 3)) (wgName 7) bYes (wCal (wr_l_is_deed Cs CF CS) (aCons (wVar 7) aNil) []) [7]) aNil)))) = WD at hD ⊢
  generalize (wLc (iZipT (wVar 4) (wVar 1)) (wgTup [8, 9]) (bNot (wVal (wVar 9))) (wVar 8) [8, 9]) = WZ at hZ ⊢
  refine l_is_name_of h.a ?_
  refine l_are_names_of h.b ?_
  refine l_are_names_of h.c ?_
  simp only [sRet, sIf, sSeq, sNil, sAsg, bOr, bAnd, bNot, wVal, wVar, wC, wIf, wAndV, wOrV, wNotV, wIsi, wCl, aCons, aNil, wCal, w2, wChain, wTup, wLst, wLc, iSeqT, iStrT, iEnumT, wM1, wSlS, wPart, wNoPart, startE, wipeE, optS, List.map_cons, List.map_nil, List.cons_append, List.nil_append, List.append_nil, List.length_cons, List.length_nil, List.getElem?_cons_zero, List.getElem?_cons_succ, List.set_cons_zero, List.set_cons_succ, List.replicate_succ, List.replicate_zero, List.any_cons, List.any_nil, Bool.or_false, if_true, Bool.false_eq_true, if_false, Nat.reduceAdd, Nat.reduceSub, Nat.add_one_sub_one, sOwn, sPar, sApp, sFrz, owL, isLD, i3, i4, l3, wgName, List.singleton_append]
  refine hT rfl rfl ?_
  simp only [p3, if_true]
  refine hD rfl rfl ?_
  simp only [p4, if_true, l5]
  refine hZ (bs := five CF CS a b c d e) rfl rfl rfl (show 5 ≤ 1000 by decide) ?_
  have so : ∀ x ∈ badsOf (five CF CS a b c d e), PyData.strOk x = true := fun x hx => by
    obtain ⟨p, hp, rfl⟩ := List.mem_map.mp hx
    have hp := (List.mem_filter.mp hp).1
    simp only [five, List.mem_cons, List.not_mem_nil, or_false] at hp
    rcases hp with rfl | rfl | rfl | rfl | rfl <;> first | (show PyData.strOk ("name" : Str) = true; decide +kernel) | (show PyData.strOk ("olds" : Str) = true; decide +kernel) | (show PyData.strOk ("news" : Str) = true; decide +kernel) | (show PyData.strOk ("tests" : Str) = true; decide +kernel) | (show PyData.strOk ("deeds" : Str) = true; decide +kernel)
  unfold dueT at q
  generalize badsOf (five CF CS a b c d e) = L at q so
  simp only [l0, if_true, fNe_nil so]
  cases L with
  | nil =>
    simp only [i0, optS, List.isEmpty_nil, Bool.not_true, Bool.false_eq_true, if_false, two_line]
    exact q
  | cons x r =>
    have e0 : fIxL (.lst ((x :: r).map T.str)) (.int 0) = some (.str x) := atI_nat (xs := (x :: r).map T.str) (j := 0) rfl
    simp only [optS, e0, List.isEmpty_cons, Bool.not_false, if_true, two_line]
    exact q
end Lw
/-! ## Pu7 -/
set_option Elab.async false
set_option linter.all false
set_option maxRecDepth 100000
set_option maxHeartbeats 2000000
/-! Pu7: k10's program side's answer on trees; own work. -/
namespace Lw
open PySem PySem.Spec PyProof.Rows L2 _root_.Sl Tr
variable {Cs : List Addr} {CB CF CS CT : Addr} {n : Nat} {k : KT}
theorem compL_any {We : WE} {E : En} {i : Nat} : ∀ {xs acc : List T} {m : Nat} {k : KT}, (∀ x ∈ xs, ∀ m k, (∀ y, k y m) → We (E.set i (.sh x)) m k) → acc.length + xs.length ≤ sizeLine → (∀ zs, k (.lst zs) m) → compL (wgName i) bYes We E xs acc m k
  | [], acc, m, k, _, _, q => q acc
  | x :: xs, acc, m, k, h, l, q => by
    rw [List.length_cons] at l
    show We (E.set i (.sh x)) m fun y m2 => if acc.length < sizeLine then compL (wgName i) bYes We E xs (acc ++ [y]) m2 k else False
    refine h x List.mem_cons_self m _ fun y => ?_
    rw [if_pos (by omega)]
    exact compL_any (fun y hy => h y (List.mem_cons_of_mem _ hy)) (by rw [List.length_append, List.length_singleton]; omega) q
theorem lookup_putO (f g : Str) (t : T) : ∀ fs : List (Str × T), (putO f t fs).lookup g = if g = f then some t else fs.lookup g
  | [] => by
    show List.lookup g [(f, t)] = _
    by_cases h : g = f
    · subst h; simp [List.lookup]
    · rw [if_neg h, List.lookup_cons, beq_eq_false_iff_ne.mpr h]
  | (a, x) :: r => by
    unfold putO
    by_cases e : a = f
    · subst e
      rw [if_pos rfl, List.lookup_cons, List.lookup_cons]
      by_cases h : g = a
      · subst h; rw [if_pos rfl, beq_self_eq_true]
      · rw [if_neg h, beq_eq_false_iff_ne.mpr h]
    · rw [if_neg e, List.lookup_cons, List.lookup_cons, lookup_putO f g t r]
      by_cases h : g = a
      · subst h
        simp [e]
      · rw [beq_eq_false_iff_ne.mpr h]
theorem putO_len (f : Str) (t : T) : ∀ fs : List (Str × T), (putO f t fs).length ≤ fs.length + 1
  | [] => Nat.le_refl _
  | (a, x) :: r => by
    unfold putO
    have := putO_len f t r
    split
    · rw [List.length_cons, List.length_cons]; omega
    · rw [List.length_cons, List.length_cons]; omega
theorem owO_at {E : En} {C : Addr} {fs : List (Str × T)} (h : E[0]? = some (.ow (.obj C fs))) : owO E 0 C = some fs := by
  unfold owO
  rw [h]
  exact if_pos rfl
theorem seq_fld {We : WE} {W2 : WS} {E : En} {D : EndT} {C : Addr} {f : Str} {fs : List (Str × T)} (e : E[0]? = some (.ow (.obj C fs))) (hl : fs.length < 1000) (q : We E n fun y m => W2 (E.set 0 (.ow (.obj C (putO f y fs)))) m D) : sSeq (sFldT 0 C f We) W2 E n D := by
  show We E n fun y m => opt (owO E 0 C) fun fs => if fs.length < 1000 then W2 (E.set 0 (.ow (.obj C (putO f y fs)))) m D else False
  simp only [owO_at e, optS, hl, if_true]
  exact q
theorem last_fld {We : WE} {E : En} {D : EndT} {C : Addr} {f : Str} {fs : List (Str × T)} (e : E[0]? = some (.ow (.obj C fs))) (hl : fs.length < 1000) (q : We E n fun y m => D.nx (E.set 0 (.ow (.obj C (putO f y fs)))) m) : sFldT 0 C f We E n D := by
  show We E n fun y m => opt (owO E 0 C) fun fs => if fs.length < 1000 then D.nx (E.set 0 (.ow (.obj C (putO f y fs)))) m else False
  simp only [owO_at e, optS, hl, if_true]
  exact q
theorem sorted_of {t : T} {E : En} {i : Nat} (h : PSeq Cs (PName Cs) t) (g : nmsT nmT t = true) (hE : E[i]? = some (.sh t)) (q : ∀ y, k y n) : wCl fTupC (aCons (wSortQ (wVar i)) aNil) E n k := by
  unfold nmsT at g
  cases hs : seqT t with
  | none => rw [hs] at g; cases g
  | some ts =>
    rw [hs] at g
    have g : (ts.all nmT && difT ts) = true := g
    have hl := h.sm ts hs
    obtain ⟨xs, rfl⟩ := str_txts nm_str (Bool.and_eq_true_iff.mp g).1
    rw [List.length_map] at hl
    have c : xs.length < 64 := by omega
    simp only [wCl, aCons, aNil, wSortQ, wVar, hE, hs, optS, txts_map, c, if_true]
    intro ys _ _
    exact q _
theorem kept_test_of {t : T} (h : PTest Cs t) (g : tsT t = true) (q : ∀ y, k y n) : wr_kept_test [t] n k := by
  refine ⟨rfl, ?_⟩
  cases t <;> try cases g
  rename_i ts
  match ts, g with
  | [a, b, c], g =>
    obtain ⟨a', b', c', e, pa, _, _⟩ := h.three [a, b, c] rfl rfl
    cases e
    have g : (wdsT a && (bdT b && (isNon c || bdT c))) = true := g
    have g := (Bool.and_eq_true_iff.mp g).1
    unfold wdsT at g
    cases hs : seqT a with
    | none => rw [hs] at g; cases g
    | some us =>
      rw [hs] at g
      have g : (decide (1 ≤ us.length) && (us.all wdT && difT us)) = true := g
      have hl := pa.sm us hs
      obtain ⟨xs, rfl⟩ := str_txts wd_str (Bool.and_eq_true_iff.mp (Bool.and_eq_true_iff.mp g).2).1
      rw [List.length_map] at hl
      have c : xs.length < 64 := by omega
      have l3 : (3 : Nat) ≤ sizeLine := line_of (by decide)
      simp only [wb_kept_test, sRet, sIf, sSeq, sNil, sAsg, bOr, bAnd, bNot, wVal, wVar, wC, wIf, wAndV, wOrV, wNotV, wIsi, wCl, aCons, aNil, wCal, w2, wChain, wTup, wLst, wLc, iSeqT, iStrT, iEnumT, wM1, wSlS, wPart, wNoPart, startE, wipeE, optS, List.map_cons, List.map_nil, List.cons_append, List.nil_append, List.append_nil, List.length_cons, List.length_nil, List.getElem?_cons_zero, List.getElem?_cons_succ, List.set_cons_zero, List.set_cons_succ, List.replicate_succ, List.replicate_zero, List.any_cons, List.any_nil, Bool.or_false, if_true, Bool.false_eq_true, if_false, Nat.reduceAdd, Nat.reduceSub, Nat.add_one_sub_one, wgTup, sets, wSortQ, hs, txts_map, c, l3]
      intro ys _ _
      exact q _
theorem kept_deed_of {t : T} (h : PDeed Cs t) (q : ∀ y, k y n) : wr_kept_deed Cs [t] n k := by
  refine ⟨rfl, ?_⟩
  simp only [wb_kept_deed, sRet, sIf, sSeq, sNil, sAsg, bOr, bAnd, bNot, wVal, wVar, wC, wIf, wAndV, wOrV, wNotV, wIsi, wCl, aCons, aNil, wCal, w2, wChain, wTup, wLst, wLc, iSeqT, iStrT, iEnumT, wM1, wSlS, wPart, wNoPart, startE, wipeE, optS, List.map_cons, List.map_nil, List.cons_append, List.nil_append, List.append_nil, List.length_cons, List.length_nil, List.getElem?_cons_zero, List.getElem?_cons_succ, List.set_cons_zero, List.set_cons_succ, List.replicate_succ, List.replicate_zero, List.any_cons, List.any_nil, Bool.or_false, if_true, Bool.false_eq_true, if_false, Nat.reduceAdd, Nat.reduceSub, Nat.add_one_sub_one]
  refine is_list_of h.ok ?_
  cases t <;> exact q _
theorem rows_of {t : T} {E : En} {i s M : Nat} {P : T → Prop} {g : T → Bool} {W : WF} (h : PSeq Cs P t) (hg : rowT M g t = true) (hs : E[s]? = some (.sh t)) (hi : i < E.length) (hW : ∀ x n k, P x → g x = true → (∀ y, k y n) → W [x] n k) (q : ∀ y, k y n) :
    wCl fTupC (aCons (wLc (iSeqT (wVar s)) (wgName i) bYes (wCal W (aCons (wVar i) aNil) []) [i]) aNil) E n k := by
  unfold rowT at hg
  cases e : seqT t with
  | none => rw [e] at hg; cases hg
  | some ts =>
    rw [e] at hg
    have hg : (decide (ts.length ≤ M) && ts.all g) = true := hg
    have hg := (Bool.and_eq_true_iff.mp hg).2
    obtain ⟨hl, ha⟩ := h.al ts e
    simp only [wCl, aCons, aNil, wLc, iSeqT, wVar, hs, e, optS]
    refine compL_any (fun x hx m k q => ?_) (by rw [List.length_nil, Nat.zero_add]; exact line_of hl) fun zs => q _
    have gi : ((wipeE E [i]).set i (.sh x))[i]? = some (.sh x) := List.getElem?_set_self (by show i < (List.set _ _ _).length; rw [List.length_set]; exact hi)
    show wVar i ((wipeE E [i]).set i (.sh x)) m fun t m' => W ([t] ++ []) m' k
    unfold wVar
    rw [gi]
    exact hW x m k (ha x hx) (List.all_eq_true.mp hg x hx) q
theorem init_of {a b c d e : T} {kn : List (Str × T) → Nat → Prop} {kx : Addr → List (Str × T) → Nat → Prop} (h : P5 Cs a b c d e)
    (q : match badsOf (five CF CS a b c d e) with | s :: _ => kx CB [((("place" : Str), T.str s) : Str × T)] n | [] => ∀ fs, fs.lookup ("_label" : Str) = some a → kn fs n) : wr_Trigger___init__ Cs CB CF CS CT [a, b, c, d, e] n kn kx := by
  refine ⟨rfl, ?_⟩
  unfold wb_Trigger___init__
  refine is_name_of h.a ?_
  cases ha : nmT a with
  | false =>
    have q : kx CB [((("place" : Str), T.str "name") : Str × T)] n := by simpa [badsOf, five, ha] using q
    exact q
  | true =>
    refine is_names_of h.b ?_
    cases hb : nmsT nmT b with
    | false =>
      have q : kx CB [((("place" : Str), T.str "olds") : Str × T)] n := by simpa [badsOf, five, ha, hb] using q
      exact q
    | true =>
      refine is_names_of h.c ?_
      cases hc : nmsT nmT c with
      | false =>
        have q : kx CB [((("place" : Str), T.str "news") : Str × T)] n := by simpa [badsOf, five, ha, hb, hc] using q
        exact q
      | true =>
        refine are_tests_of h.d ?_
        cases hd : rowT 3 tsT d with
        | false =>
          have q : kx CB [((("place" : Str), T.str "tests") : Str × T)] n := by simpa [badsOf, five, ha, hb, hc, hd] using q
          exact q
        | true =>
          refine are_deeds_of h.e ?_
          cases he : rowT 4 (ddT CF CS) e with
          | false =>
            have q : kx CB [((("place" : Str), T.str "deeds") : Str × T)] n := by simpa [badsOf, five, ha, hb, hc, hd, he] using q
            exact q
          | true =>
            have q : ∀ fs, fs.lookup ("_label" : Str) = some a → kn fs n := by simpa [badsOf, five, ha, hb, hc, hd, he] using q
            show sSeq (sFldT 0 CT "_label" (wVar 1)) _ [.ow (.obj CT []), .sh a, .sh b, .sh c, .sh d, .sh e, .no, .no] n _
            refine seq_fld (fs := []) rfl (by decide) ?_
            simp only [wVar, List.getElem?_cons_zero, List.getElem?_cons_succ, List.set_cons_zero]
            show sSeq (sFldT 0 CT "_olds" (wCl fTupC (aCons (wSortQ (wVar 2)) aNil))) _ [.ow (.obj CT (putO "_label" a [])), .sh a, .sh b, .sh c, .sh d, .sh e, .no, .no] n _
            have l0 := lookup_putO "_label" "_label" a []
            rw [if_pos rfl] at l0
            have n0 := putO_len "_label" a []
            generalize putO "_label" a [] = f0 at l0 n0
            refine seq_fld (fs := f0) rfl (by rw [List.length_nil] at n0; omega) (sorted_of h.b hb rfl fun y1 => ?_)
            show sSeq (sFldT 0 CT "_news" _) _ [.ow (.obj CT (putO "_olds" y1 f0)), .sh a, .sh b, .sh c, .sh d, .sh e, .no, .no] n _
            have l1 := lookup_putO "_olds" "_label" y1 f0
            rw [if_neg (by decide +kernel), l0] at l1
            have n1 := putO_len "_olds" y1 f0
            generalize putO "_olds" y1 f0 = f1 at l1 n1
            refine seq_fld (fs := f1) rfl (by rw [List.length_nil] at n0; omega) (sorted_of h.c hc rfl fun y2 => ?_)
            show sSeq (sFldT 0 CT "_tests" _) _ [.ow (.obj CT (putO "_news" y2 f1)), .sh a, .sh b, .sh c, .sh d, .sh e, .no, .no] n _
            have l2 := lookup_putO "_news" "_label" y2 f1
            rw [if_neg (by decide +kernel), l1] at l2
            have n2 := putO_len "_news" y2 f1
            generalize putO "_news" y2 f1 = f2 at l2 n2
            refine seq_fld (fs := f2) rfl (by rw [List.length_nil] at n0; omega) (rows_of h.d hd rfl (show 6 < 8 by decide) (fun x n k p g q => kept_test_of p g q) fun y3 => ?_)
            show sFldT 0 CT "_deeds" _ [.ow (.obj CT (putO "_tests" y3 f2)), .sh a, .sh b, .sh c, .sh d, .sh e, .no, .no] n _
            have l3 := lookup_putO "_tests" "_label" y3 f2
            rw [if_neg (by decide +kernel), l2] at l3
            have n3 := putO_len "_tests" y3 f2
            generalize putO "_tests" y3 f2 = f3 at l3 n3
            refine last_fld (fs := f3) rfl (by rw [List.length_nil] at n0; omega) (rows_of h.e he rfl (show 7 < 8 by decide) (fun x n k p g q => kept_deed_of p q) fun y4 => ?_)
            have l4 := lookup_putO "_deeds" "_label" y4 f3
            rw [if_neg (by decide +kernel), l3] at l4
            exact ⟨_, rfl, q _ l4⟩
theorem label_of {fs : List (Str × T)} {a : T} (h : fs.lookup ("_label" : Str) = some a) (q : k a n) : wr_Trigger_label CT [.obj CT fs] n k := by
  refine ⟨rfl, ?_⟩
  have e : asO CT (.obj CT fs) = some fs := if_pos rfl
  simp only [wb_Trigger_label, wFldC, sRet, sIf, sSeq, sNil, sAsg, bOr, bAnd, bNot, wVal, wVar, wC, wIf, wAndV, wOrV, wNotV, wIsi, wCl, aCons, aNil, wCal, w2, wChain, wTup, wLst, wLc, iSeqT, iStrT, iEnumT, wM1, wSlS, wPart, wNoPart, startE, wipeE, optS, List.map_cons, List.map_nil, List.cons_append, List.nil_append, List.append_nil, List.length_cons, List.length_nil, List.getElem?_cons_zero, List.getElem?_cons_succ, List.set_cons_zero, List.set_cons_succ, List.replicate_succ, List.replicate_zero, List.any_cons, List.any_nil, Bool.or_false, if_true, Bool.false_eq_true, if_false, Nat.reduceAdd, Nat.reduceSub, Nat.add_one_sub_one, e, h]
  exact q
theorem tried_of {a b c d e : T} (h : P5 Cs a b c d e) (q : k (dueT CF CS a b c d e) n) : trW CB CT (wr_Trigger___init__ Cs CB CF CS CT) (wr_Trigger_label CT) [.lst [a, b, c, d, e]] n k := by
  refine ⟨a, b, c, d, e, rfl, init_of h ?_⟩
  unfold dueT at q
  generalize badsOf (five CF CS a b c d e) = L at q
  cases L with
  | nil => exact fun fs hf => label_of hf q
  | cons s r => exact ⟨rfl, s, rfl, q⟩
end Lw
/-! ## Pu8 -/
set_option Elab.async false
set_option linter.all false
set_option maxRecDepth 100000
set_option maxHeartbeats 4000000
/-! Pu8: k10's odd parts on trees; own work. -/
namespace Lw
open PySem PySem.Spec PyProof.Rows L2 _root_.Sl Tr
variable {Cs : List Addr} {CB CF CS CT : Addr} {n : Nat} {k : KT}
theorem draw_of {m : Nat} (hn : n ≤ 99000) (h0 : 0 < m) (hm : m < 1000000) (q : ∀ j : Nat, j < m → k (.int (j : Nat)) (n + 1)) : drawW [.src, .int (m : Nat)] n k :=
  ⟨m, rfl, by omega, by omega, by
    have : (m : Int) < 1000000 := by omega
    have h2 : (1000000 : Int) < 2 ^ 200 := by decide
    omega, fun j a b => by
    obtain ⟨i, rfl⟩ : ∃ i : Nat, j = (i : Int) := ⟨j.toNat, by omega⟩
    exact q i (by omega)⟩
theorem pick_of {xs : List T} (hn : n ≤ 99000) (h0 : 0 < xs.length) (hl : xs.length ≤ 1000) (q : ∀ x ∈ xs, k x (n + 1)) : pickW [.src, .lst xs] n k := ⟨xs, rfl, by omega, h0, by omega, q⟩
theorem le_line {m : Nat} (h : m ≤ 100) : (m ≤ sizeLine) = True := eq_true (line_of (Nat.le_trans h (by decide)))
/-! what is fine, by computation -/
def okD : T → Bool | .obj _ _ => false | .src => false | _ => true
theorem okD_ty {t : T} (h : okD t = true) : okTy Cs t = true := by cases t <;> first | rfl | cases h
def nameB' (t : T) : Bool := okD t && (match t with | .str z => decide (z.length ≤ 1000) | _ => true)
theorem pname_of {t : T} (h : nameB' t = true) : PName Cs t := by
  obtain ⟨h1, h2⟩ := Bool.and_eq_true_iff.mp h
  exact ⟨okD_ty h1, fun z e => by subst e; exact of_decide_eq_true h2⟩
def rowB (g : T → Bool) (t : T) : Bool := okD t && (match seqT t with | some ts => decide (ts.length ≤ 60) && ts.all g | none => true)
theorem pseq_of {P : T → Prop} {g : T → Bool} (hg : ∀ t, g t = true → P t) {t : T} (h : rowB g t = true) : PSeq Cs P t := by
  obtain ⟨h1, h2⟩ := Bool.and_eq_true_iff.mp h
  have h3 : ∀ ts, seqT t = some ts → ts.length ≤ 60 ∧ ts.all g = true := fun ts e => by
    rw [e] at h2
    have h2 : (decide (ts.length ≤ 60) && ts.all g) = true := h2
    obtain ⟨a, b⟩ := Bool.and_eq_true_iff.mp h2
    exact ⟨of_decide_eq_true a, b⟩
  exact ⟨okD_ty h1, fun ts e => ⟨Nat.le_trans (h3 ts e).1 (by decide), fun x hx => hg x (List.all_eq_true.mp (h3 ts e).2 x hx)⟩, fun ts e => (h3 ts e).1⟩
def testB (t : T) : Bool := okD t && (match t with | .tup [a, b, c] => rowB nameB' a && (okD b && okD c) | .tup ts => decide (ts.length ≠ 3) | .lst ts => decide (ts.length ≠ 3) | _ => true)
theorem ptest_of {t : T} (h : testB t = true) : PTest Cs t := by
  obtain ⟨h1, h2⟩ := Bool.and_eq_true_iff.mp h
  refine ⟨okD_ty h1, fun ts e h3 => ?_⟩
  cases t <;> cases e
  · exact absurd h3 (of_decide_eq_true h2)
  · match ts, h3, h2 with
    | [a, b, c], _, h2 =>
      obtain ⟨p1, p2⟩ := Bool.and_eq_true_iff.mp h2
      obtain ⟨p2, p3⟩ := Bool.and_eq_true_iff.mp p2
      exact ⟨a, b, c, rfl, pseq_of (fun t => pname_of) p1, okD_ty p2, okD_ty p3⟩
def deedB (CF CS : Addr) (t : T) : Bool := match t with
  | .obj C _ => decide (C = CS) | .src => false
  | .str z => PyData.strOk z
  | .tup [a, b, c] => okD a && (flatT a && (nameB' b && (match c with | .obj C _ => decide (C = CF) | _ => okD c)))
  | .tup ts => decide (ts.length ≠ 3) | .lst ts => decide (ts.length ≠ 3) | _ => true
theorem okC (hF : CF ∈ Cs) {c : T} (h : (match c with | .obj C _ => decide (C = CF) | _ => okD c) = true) : okTy Cs c = true := by
  cases c
  case obj C gs =>
    have e : C = CF := of_decide_eq_true h
    subst e
    exact decide_eq_true hF
  all_goals first | rfl | cases h
theorem pdeed_of (hF : CF ∈ Cs) (hS : CS ∈ Cs) {t : T} (h : deedB CF CS t = true) : PDeed Cs t := by
  have ok : okTy Cs t = true := by
    cases t <;> first | rfl | cases h | skip
    rename_i C fs
    have e : C = CS := of_decide_eq_true h
    subst e
    exact decide_eq_true hS
  refine ⟨ok, fun z e => by subst e; exact h, fun ts e h3 => ?_⟩
  cases t <;> cases e
  · exact absurd h3 (of_decide_eq_true h)
  · match ts, h3, h with
    | [a, b, c], _, h =>
      obtain ⟨p1, p2⟩ := Bool.and_eq_true_iff.mp h
      obtain ⟨p2, p3⟩ := Bool.and_eq_true_iff.mp p2
      obtain ⟨p3, p4⟩ := Bool.and_eq_true_iff.mp p3
      refine ⟨a, b, c, rfl, okD_ty p1, p2, pname_of p3, ?_⟩
      exact okC hF p4
/-! the odd parts -/
theorem form0_of {E : En} (q : k (.obj CF []) n) : wForm1 CF wDNew E n k := ⟨[], rfl, ⟨List.nodup_nil, (fun x hx => by cases hx), Nat.zero_le _⟩, q⟩
theorem odd0_of (hn : n ≤ 98000) (q : ∀ t, PName Cs t → k t (n + 1)) : wr_l_odd CF [.src, .int 0] n k := by
  refine ⟨rfl, ?_⟩
  unfold wb_l_odd
  show pickW [.src, .lst [.str "", .str "A", .non, .int 5, .str "ninechars", .lst [.str "a"], .bl true, .str "a b", .str "a1", .str "a{"]] n k
  refine pick_of (by omega) (by decide) (by decide) fun x hx => q x (pname_of ?_)
  have h : ([.str "", .str "A", .non, .int 5, .str "ninechars", .lst [.str "a"], .bl true, .str "a b", .str "a1", .str "a{"] : List T).all nameB' = true := by rfl
  exact List.all_eq_true.mp h x hx
theorem odd12_of {i : Int} (hi : i = 1 ∨ i = 2) (hn : n ≤ 98000) (q : ∀ t, PSeq Cs (PName Cs) t → k t (n + 1)) : wr_l_odd CF [.src, .int i] n k := by
  refine ⟨rfl, ?_⟩
  unfold wb_l_odd
  have h : ([.non, .str "ab", .int 5, .lst [.str "a", .str "a"], .lst [.non], .lst [.str "A"], .lst [.lst [.str "a"]], .dic [], .tup [.str "a"], .lst [], .lst [.str "old.a"]] : List T).all (rowB nameB') = true := by rfl
  have key : pickW [.src, .lst [.non, .str "ab", .int 5, .lst [.str "a", .str "a"], .lst [.non], .lst [.str "A"], .lst [.lst [.str "a"]], .dic [], .tup [.str "a"], .lst [], .lst [.str "old.a"]]] n k :=
    pick_of (by omega) (by decide) (by decide) fun x hx => q x (pseq_of (fun t => pname_of) (List.all_eq_true.mp h x hx))
  rcases hi with rfl | rfl <;> exact key
def goodT : T := .tup [.lst [.str "a", .str "old.a"], .int 0, .non]
def goodD (CF : Addr) : T := .tup [.str "add", .str "a", .obj CF []]
def oddTs1 : List T := [.tup [.lst [.str "a"], .int 0, .int 4], .tup [.lst [.str "a"], .int (-1), .non], .tup [.lst [.str "a"], .int 0, .bl true], .tup [.lst [], .int 0, .int 1], .tup [.lst [.str "a", .str "a"], .int 0, .int 1]]
def oddTs2 : List T := [.tup [.lst [.str "a.b"], .int 0, .int 1], .tup [.lst [.str "a"], .int 0], .tup [.str "a", .int 0, .int 1], .non, .tup [.lst [.str "a"], .str "0", .int 1], .tup [.lst [.str "a"], .int 3, .int 0]]
def oddTs3 : List T := [.tup [.lst [.lst [.str "a"]], .int 0, .int 1], .tup [.lst [.dic []], .int 0, .int 1], .tup [.lst [.non, .str "a"], .int 0, .int 1], .tup [.lst [.str "a", .int 5], .int 0, .int 1]]
def oddDs1 (CF : Addr) : List T := [.str "refused", .non, .int 5, .tup [.str "add", .str "a"], .tup [.str "add", .str "a", .int 5], .tup [.str "sub", .str "a", .obj CF []], .dic [], .lst []]
def oddDs2 (CF : Addr) : List T := [.tup [.str "set", .str "A", .obj CF []], .tup [.str "add", .str "a", .obj CF [], .int 1], .tup [.non, .str "a", .obj CF []], .str "refuse"]
theorem odd_core {i : Int} (hi : i = 3 ∨ i = 4) (hn : n ≤ 98000) (q : ∀ t d n', testB t = true → deedB CF CS d = true → n' ≤ n + 10 → (sSeq (sAsg (wIf (wVal (w2 fEq (wVar 1) (wC (.int 3)))) (wTup (aCons (wLst (aCons (wC (.str "a")) (aCons (wC (.str "old.a")) aNil))) (aCons (wC (.int 0)) (aCons (wC .non) aNil)))) (wTup (aCons (wC (.str "add")) (aCons (wC (.str "a")) (aCons (wForm1 CF (wDisp1 (wC (.str "a")) (wC (.int 1)))) aNil))))) (wgName 4)) (sSeq (sAsg (wLst (aCons (w2 fRep (wLst (aCons (wVar 4) aNil)) (w2 (fI fun i j => .int (i + j)) (wC (.int 3)) (wCal drawW (aCons (wVar 0) (aCons (wC (.int 3)) aNil)) []))) (aCons (wLst (aCons (wVar 4) (aCons (wIf (wVal (w2 fEq (wVar 1) (wC (.int 3)))) (wVar 2) (wVar 3)) aNil))) (aCons (wLst (aCons (wIf (wVal (w2 fEq (wVar 1) (wC (.int 3)))) (wVar 2) (wVar 3)) aNil)) aNil)))) (wgName 5)) (sRet (wCal pickW (aCons (wVar 0) (aCons (w2 fCat (wVar 5) (wLst (aCons (wC .non) (aCons (wC (.str "ab")) (aCons (wC (.int 5)) (aCons wDNew (aCons (wTup aNil) aNil))))))) aNil)) [])))) [.sh .src, .sh (.int i), .sh t, .sh d, .no, .no] n' { nx := fun _ m => k .non m, rt := k }) :
    wr_l_odd CF [.src, .int i] n k := by
  refine ⟨rfl, ?_⟩
  unfold wb_l_odd
  generalize (sSeq (sAsg (wIf (wVal (w2 fEq (wVar 1) (wC (.int 3)))) (wTup (aCons (wLst (aCons (wC (.str "a")) (aCons (wC (.str "old.a")) aNil))) (aCons (wC (.int 0)) (aCons (wC .non) aNil)))) (wTup (aCons (wC (.str "add")) (aCons (wC (.str "a")) (aCons (wForm1 CF (wDisp1 (wC (.str "a")) (wC (.int 1)))) aNil))))) (wgName 4)) (sSeq (sAsg (wLst (aCons (w2 fRep (wLst (aCons (wVar 4) aNil)) (w2 (fI fun i j => .int (i + j)) (wC (.int 3)) (wCal drawW (aCons (wVar 0) (aCons (wC (.int 3)) aNil)) []))) (aCons (wLst (aCons (wVar 4) (aCons (wIf (wVal (w2 fEq (wVar 1) (wC (.int 3)))) (wVar 2) (wVar 3)) aNil))) (aCons (wLst (aCons (wIf (wVal (w2 fEq (wVar 1) (wC (.int 3)))) (wVar 2) (wVar 3)) aNil)) aNil)))) (wgName 5)) (sRet (wCal pickW (aCons (wVar 0) (aCons (w2 fCat (wVar 5) (wLst (aCons (wC .non) (aCons (wC (.str "ab")) (aCons (wC (.int 5)) (aCons wDNew (aCons (wTup aNil) aNil))))))) aNil)) [])))) = REST at q ⊢
  have key : pickW [.src, .lst oddTs1] n fun t1 n1 => pickW [.src, .lst (t1 :: oddTs2)] n1 fun t2 n2 => pickW [.src, .lst (t2 :: t2 :: t2 :: oddTs3)] n2 fun t n3 => (∃ B, T.dic [] = bringsT B ∧ okW B ∧ pickW [.src, .lst (oddDs1 CF)] n3 fun d1 n4 => ∃ B, T.dic [] = bringsT B ∧ okW B ∧ ∃ B, T.dic [] = bringsT B ∧ okW B ∧ ∃ B, T.dic [] = bringsT B ∧ okW B ∧ pickW [.src, .lst (d1 :: oddDs2 CF)] n4 fun d n5 => REST [.sh .src, .sh (.int i), .sh t, .sh d, .no, .no] n5 { nx := fun _ m => k .non m, rt := k }) := by
    have h1 : oddTs1.all testB = true := by rfl
    have h2 : oddTs2.all testB = true := by rfl
    have h3 : oddTs3.all testB = true := by rfl
    have o0 : okW [] := ⟨List.nodup_nil, (fun x hx => by cases hx), Nat.zero_le _⟩
    refine pick_of (by omega) (by decide) (by decide) fun t1 ht1 => ?_
    have b1 := List.all_eq_true.mp h1 t1 ht1
    refine pick_of (by omega) (by simp) (show 7 ≤ 1000 by decide) fun t2 ht2 => ?_
    have b2 : testB t2 = true := (List.mem_cons.mp ht2).elim (fun e => e ▸ b1) fun h => List.all_eq_true.mp h2 t2 h
    refine pick_of (by omega) (by simp) (show 7 ≤ 1000 by decide) fun t3 ht3 => ?_
    have b3 : testB t3 = true := by
      rcases List.mem_cons.mp ht3 with e | h
      · exact e ▸ b2
      rcases List.mem_cons.mp h with e | h
      · exact e ▸ b2
      rcases List.mem_cons.mp h with e | h
      · exact e ▸ b2
      exact List.all_eq_true.mp h3 t3 h
    refine ⟨[], rfl, o0, pick_of (by omega) (show 0 < 8 by decide) (show 8 ≤ 1000 by decide) fun d1 hd1 => ?_⟩
    have c1 : deedB CF CS d1 = true := by
      simp only [oddDs1, List.mem_cons, List.not_mem_nil, or_false] at hd1
      rcases hd1 with rfl | rfl | rfl | rfl | rfl | rfl | rfl | rfl <;> first | rfl | (show PyData.strOk ("refused" : Str) = true; decide +kernel) | (show PyData.strOk ("refuse" : Str) = true; decide +kernel) | (show (true && (true && (nameB' (.str "a") && decide (CF = CF)))) = true; rw [decide_eq_true rfl]; rfl) | (show (true && (true && (nameB' (.str "A") && decide (CF = CF)))) = true; rw [decide_eq_true rfl]; rfl)
    refine ⟨[], rfl, o0, [], rfl, o0, [], rfl, o0, pick_of (by omega) (by simp) (show 5 ≤ 1000 by decide) fun d hd => ?_⟩
    refine q t3 d _ b3 ?_ (by omega)
    rcases List.mem_cons.mp hd with e | h
    · exact e ▸ c1
    simp only [oddDs2, List.mem_cons, List.not_mem_nil, or_false] at h
    rcases h with rfl | rfl | rfl | rfl <;> first | rfl | (show PyData.strOk ("refused" : Str) = true; decide +kernel) | (show PyData.strOk ("refuse" : Str) = true; decide +kernel) | (show (true && (true && (nameB' (.str "a") && decide (CF = CF)))) = true; rw [decide_eq_true rfl]; rfl) | (show (true && (true && (nameB' (.str "A") && decide (CF = CF)))) = true; rw [decide_eq_true rfl]; rfl)
  rcases hi with rfl | rfl <;> exact key
end Lw
/-! ## Pu9 -/
set_option Elab.async false
set_option linter.all false
set_option maxRecDepth 100000
set_option maxHeartbeats 4000000
/-! Pu9: k10's odd parts, the last step; own work. -/
namespace Lw
open PySem PySem.Spec PyProof.Rows L2 _root_.Sl Tr
variable {Cs : List Addr} {CB CF CS CT : Addr} {n : Nat} {k : KT}
theorem few_P {P : T → Prop} {ts : List T} (h : ∀ x ∈ ts, P x) (l : ts.length ≤ 60) : PSeq Cs P (.lst ts) :=
  ⟨rfl, fun us e => by cases e; exact ⟨Nat.le_trans l (by decide), h⟩, fun us e => by cases e; exact l⟩
theorem last_of {P : T → Prop} {g t : T} {j : Nat} (hj : j < 3) (pg : P g) (pt : P t) : ∀ x ∈ ([.lst (List.replicate (3 + j) [g]).flatten, .lst [g, t], .lst [t], .non, .str "ab", .int 5, .dic [], .tup []] : List T), PSeq Cs P x := fun x hx => by
  simp only [List.mem_cons, List.not_mem_nil, or_false] at hx
  rcases hx with rfl | rfl | rfl | rfl | rfl | rfl | rfl | rfl
  · refine few_P (fun y hy => ?_) ?_
    · obtain ⟨l, hl, hy⟩ := List.mem_flatten.mp hy
      rw [(List.mem_replicate.mp hl).2] at hy
      rw [List.mem_singleton.mp hy]
      exact pg
    · rw [List.length_flatten, List.map_replicate]
      simp
      omega
  · refine few_P (fun y hy => ?_) (show 2 ≤ 60 by decide)
    rcases List.mem_cons.mp hy with e | h
    · exact e ▸ pg
    · rw [List.mem_singleton.mp h]; exact pt
  · refine few_P (fun y hy => ?_) (show 1 ≤ 60 by decide)
    rw [List.mem_singleton.mp hy]; exact pt
  · exact ⟨rfl, (fun us e => by cases e), (fun us e => by cases e)⟩
  · exact ⟨rfl, (fun us e => by cases e), (fun us e => by cases e)⟩
  · exact ⟨rfl, (fun us e => by cases e), (fun us e => by cases e)⟩
  · exact ⟨rfl, (fun us e => by cases e), (fun us e => by cases e)⟩
  · exact ⟨rfl, (fun us e => by cases e; exact ⟨by decide, (fun x hx => by cases hx)⟩), (fun us e => by cases e; exact Nat.zero_le _)⟩
theorem rep_of {g : T} {j : Nat} (hj : j < 3) : fRep (.lst [g]) (.int (3 + (j : Nat))) = some (.lst (List.replicate (3 + j) [g]).flatten) := by
  have e : ((3 : Int) + (j : Nat)).toNat = 3 + j := by omega
  unfold fRep
  dsimp only
  rw [e, if_pos ⟨by omega, by omega, by
    rw [List.length_singleton, Nat.one_mul]
    exact line_of (by omega)⟩]
theorem fCat_of {xs ys : List T} (h : xs.length + ys.length ≤ 1000) : fCat (.lst xs) (.lst ys) = some (.lst (xs ++ ys)) := if_pos (line_of h)
theorem odd3_of (hF : CF ∈ Cs) (hS : CS ∈ Cs) (hn : n ≤ 98000) (q : ∀ t n', n' ≤ n + 20 → PSeq Cs (PTest Cs) t → k t n') : wr_l_odd CF [.src, .int 3] n k := by
  refine odd_core (CS := CS) (.inl rfl) hn fun t d n' bt bd hn' => ?_
  have pg : PTest Cs goodT := ptest_of (by rfl)
  have pt : PTest Cs t := ptest_of bt
  have key : drawW [.src, .int 3] n' fun j n1 => opt ((fI fun i j => .int (i + j)) (.int 3) j) fun z => opt (fRep (.lst [goodT]) z) fun l1 => opt (fCat (.lst [l1, .lst [goodT, t], .lst [t]]) (.lst [.non, .str "ab", .int 5, .dic [], .tup []])) fun l => pickW [.src, l] n1 k := by
    refine draw_of (m := 3) (by omega) (by decide) (by decide) fun j hj => ?_
    show opt ((fI fun i j => T.int (i + j)) (.int 3) (.int (j : Nat))) _
    rw [show (fI fun i j => T.int (i + j)) (.int 3) (.int (j : Nat)) = some (.int (3 + (j : Nat))) from rfl, optS, rep_of hj, optS]
    rw [fCat_of, optS]
    · exact pick_of (by omega) (show 0 < 8 by decide) (show 8 ≤ 1000 by decide) fun x hx => q x _ (by omega) (last_of hj pg pt x hx)
    · exact (show 3 + 5 ≤ 1000 by decide)
  exact key
theorem odd4_of (hF : CF ∈ Cs) (hS : CS ∈ Cs) (hn : n ≤ 98000) (q : ∀ t n', n' ≤ n + 20 → PSeq Cs (PDeed Cs) t → k t n') : wr_l_odd CF [.src, .int 4] n k := by
  refine odd_core (CS := CS) (.inr rfl) hn fun t d n' bt bd hn' => ?_
  have pg : PDeed Cs (goodD CF) := pdeed_of hF hS (by
    show (true && (true && (nameB' (.str "a") && decide (CF = CF)))) = true
    rw [decide_eq_true rfl]
    rfl)
  have pt : PDeed Cs d := pdeed_of hF hS bd
  have key : ∃ B, T.dic [("a", .int 1)] = bringsT B ∧ okW B ∧ drawW [.src, .int 3] n' fun j n1 => opt ((fI fun i j => .int (i + j)) (.int 3) j) fun z => opt (fRep (.lst [goodD CF]) z) fun l1 => opt (fCat (.lst [l1, .lst [goodD CF, d], .lst [d]]) (.lst [.non, .str "ab", .int 5, .dic [], .tup []])) fun l => pickW [.src, l] n1 k := by
    refine ⟨[("a", 1)], rfl, ⟨by simp [ks], fun x hx => ?_, by decide⟩, ?_⟩
    · have e : x = "a" := by simpa [ks] using hx
      subst e
      exact ⟨by decide +kernel, by decide +kernel⟩
    refine draw_of (m := 3) (by omega) (by decide) (by decide) fun j hj => ?_
    show opt ((fI fun i j => T.int (i + j)) (.int 3) (.int (j : Nat))) _
    rw [show (fI fun i j => T.int (i + j)) (.int 3) (.int (j : Nat)) = some (.int (3 + (j : Nat))) from rfl, optS, rep_of hj, optS]
    rw [fCat_of, optS]
    · exact pick_of (by omega) (show 0 < 8 by decide) (show 8 ≤ 1000 by decide) fun x hx => q x _ (by omega) (last_of hj pg pt x hx)
    · exact (show 3 + 5 ≤ 1000 by decide)
  exact key
end Lw
/-! ## Pu10 -/
set_option Elab.async false
set_option linter.all false
set_option maxRecDepth 100000
set_option maxHeartbeats 4000000
/-! Pu10: k10's drawn deeds; own work. -/
namespace Lw
open PySem PySem.Spec PyProof.Rows L2 _root_.Sl Tr
variable {Cs : List Addr} {CB CF CS CT : Addr} {n : Nat} {k : KT}
theorem strs_of' (xs : List Str) {f : Str → Str} : (xs.map T.str).map (fun t => match t with | .str z => .str (f z) | t => t) = (xs.map f).map T.str := by
  rw [List.map_map, List.map_map]
  rfl
theorem lots_of {xs : List Str} (hl : xs.length ≤ 10) (h8 : ∀ x ∈ xs, x.length ≤ 8) (q : k (.lst ((xs.map (("old." : Str) ++ ·) ++ xs.map (("new." : Str) ++ ·)).map T.str)) n) : wr_l_lots [.lst (xs.map T.str)] n k := by
  refine ⟨rfl, ?_⟩
  have one : ∀ (a : Str), a.length = 4 → ∀ (E : En) (m : Nat) (k : KT), 1 < E.length → k (.lst ((xs.map (a ++ ·)).map T.str)) m → compL (wgName 1) bYes (w2 fAddS (wC (.str a)) (wVar 1)) E (xs.map T.str) [] m k := fun a ha E m k hE q => by
    refine compL_map (f := fun t => match t with | .str z => .str (a ++ z) | t => t) (fun x hx m k q => ?_) (by rw [List.length_nil, Nat.zero_add, List.length_map]; exact line_of (by omega)) ?_
    · obtain ⟨z, hz, rfl⟩ := List.mem_map.mp hx
      have g : (E.set 1 (.sh (.str z)))[1]? = some (.sh (.str z)) := List.getElem?_set_self hE
      have h9 := h8 z hz
      have e : fAddS (.str a) (.str z) = some (.str (a ++ z)) := if_pos (line_of (by omega))
      simp only [w2, wC, wVar, g, e, optS]
      exact q
    · rw [strs_of', List.nil_append]
      exact q
  unfold wb_l_lots
  have key : compL (wgName 1) bYes (w2 fAddS (wC (.str "old.")) (wVar 1)) [.sh (.lst (xs.map T.str)), .no] (xs.map T.str) [] n fun t m => compL (wgName 1) bYes (w2 fAddS (wC (.str "new.")) (wVar 1)) [.sh (.lst (xs.map T.str)), .no] (xs.map T.str) [] m fun u m' => opt (fCat t u) fun z => k z m' := by
    refine one "old." (by decide +kernel) _ _ _ (show 1 < 2 by decide) (one "new." (by decide +kernel) _ _ _ (show 1 < 2 by decide) ?_)
    rw [fCat_of, optS, ← List.map_append]
    · exact q
    · rw [List.length_map, List.length_map, List.length_map, List.length_map]; omega
  exact key
theorem put_brings {B : NI} {x : Str} {v : Int} (hn : (ks B).Nodup) : ∃ B' : NI, putT (B.map fun b => (b.1, T.int b.2)) x (.int v) = B'.map (fun b => (b.1, T.int b.2)) ∧ (ks B').Nodup ∧ (∀ y ∈ ks B', y ∈ ks B ∨ y = x) ∧ B'.length ≤ B.length + 1 := by
  unfold putT
  by_cases h : (B.map fun b => (b.1, T.int b.2)).any (fun kv => decide (kv.1 = x)) = true
  · rw [if_pos h]
    refine ⟨B.map fun b => if b.1 = x then (b.1, v) else b, ?_, ?_, ?_, by rw [List.length_map]; omega⟩
    · rw [List.map_map, List.map_map]
      refine List.map_congr_left fun b _ => ?_
      show (if b.1 = x then (b.1, T.int v) else (b.1, T.int b.2)) = ((if b.1 = x then (b.1, v) else b).1, T.int (if b.1 = x then (b.1, v) else b).2)
      split <;> rfl
    · have e : ks (B.map fun b => if b.1 = x then (b.1, v) else b) = ks B := by
        unfold ks
        rw [List.map_map]
        refine List.map_congr_left fun b _ => ?_
        show (if b.1 = x then (b.1, v) else b).1 = b.1
        split <;> rfl
      rw [e]; exact hn
    · intro y hy
      left
      obtain ⟨b, hb, rfl⟩ := List.mem_map.mp hy
      obtain ⟨c, hc, rfl⟩ := List.mem_map.mp hb
      refine List.mem_map.mpr ⟨c, hc, ?_⟩
      split <;> rfl
  · rw [if_neg h]
    refine ⟨B ++ [(x, v)], by rw [List.map_append]; rfl, ?_, fun y hy => ?_, by rw [List.length_append]; exact Nat.le_refl _⟩
    · unfold ks
      rw [List.map_append]
      refine List.nodup_append.mpr ⟨hn, by simp, fun a ha b hb e => h ?_⟩
      have eb : b = x := by simpa using hb
      obtain ⟨c, hc, e2⟩ := List.mem_map.mp ha
      refine List.any_eq_true.mpr ⟨(c.1, T.int c.2), List.mem_map.mpr ⟨c, hc, rfl⟩, decide_eq_true ?_⟩
      show c.1 = x
      rw [e2, e, eb]
    · unfold ks at hy
      rw [List.map_append] at hy
      rcases List.mem_append.mp hy with h | h
      · exact .inl h
      · exact .inr (by simpa using h)
theorem pick5 {L : List T} {m : Nat} {E : En} {M : Nat} (hE : E[0]? = some (.sh .src)) (hn : m ≤ 99000) (hM : L.length = M) (h0 : 0 < M) (h1 : M ≤ 100) {WL : WE} (hL : ∀ n k, k (.lst L) n → WL E n k) (q : ∀ x ∈ L, k x (m + 1)) :
    w2 fIxL WL (wCal drawW (aCons (wVar 0) (aCons (wC (.int (M : Nat))) aNil)) []) E m k := by
  refine hL _ _ ?_
  show wVar 0 E m fun t m1 => drawW ([t, .int (M : Nat)] ++ []) m1 fun y m' => opt (fIxL (.lst L) y) fun z => k z m'
  unfold wVar
  rw [hE]
  refine draw_of (by omega) h0 (by omega) fun j hj => ?_
  have e : fIxL (.lst L) (.int (j : Nat)) = some (L[j]'(by omega)) := atI_nat (List.getElem?_eq_getElem (by omega))
  rw [e, optS]
  exact q _ (List.getElem_mem _)
theorem some_of {xs : List T} (hn : n ≤ 97000) (h1 : 1 ≤ xs.length) (h2 : xs.length ≤ 60) (q : ∀ zs : List T, (∀ z ∈ zs, z ∈ xs) → zs.length ≤ xs.length → k (.lst zs) (n + xs.length + 1)) : someW [.src, .lst xs] n k :=
  ⟨xs, rfl, hn, h1, h2, fun F zs p s _ => q zs (fun z hz => p.mem_iff.mp (s.subset hz)) (by rw [← p.length_eq]; exact s.length_le)⟩
theorem cut_mem {ts : List T} {lo hi : Option Int} : (∀ x ∈ cutT ts lo hi, x ∈ ts) ∧ (cutT ts lo hi).length ≤ ts.length := by
  unfold cutT
  refine ⟨fun x hx => List.mem_of_mem_drop (List.mem_of_mem_take hx), ?_⟩
  rw [List.length_take, List.length_drop]
  omega
theorem sum_of {xs : List Str} (hn : n ≤ 90000) (h1 : 1 ≤ xs.length) (h2 : xs.length ≤ 20) (hw : ∀ x ∈ xs, wordB x = true ∧ x.length ≤ 1000) (q : ∀ (B : NI) (i : Int) n', n' ≤ n + 60 → okW B → k (.tup [bringsT B, .int i]) n') : wr_l_sum [.src, .lst (xs.map T.str)] n k := by
  refine ⟨rfl, ?_⟩
  unfold wb_l_sum
  have loop : ∀ (zs : List T) (B : NI) (m : Nat) (last : Sl), (∀ z ∈ zs, ∃ x ∈ xs, z = .str x) → (ks B).Nodup → (∀ y ∈ ks B, y ∈ xs) → B.length + zs.length ≤ 25 → m + zs.length ≤ n + 50 →
      forL (wgName 3) (sPut 2 (wVar 3) (w2 fIxL (wLst (aCons (wC (.int 1)) (aCons (wC (.int 1)) (aCons (wNeg (wC (.int 1))) (aCons (wC (.int 2)) (aCons (wNeg (wC (.int 3))) aNil)))))) (wCal drawW (aCons (wVar 0) (aCons (wC (.int 5)) aNil)) []))) zs [.sh .src, .sh (.lst (xs.map T.str)), .ow (bringsT B), last] m { nx := fun E m => (sFrz 2 (sRet (wTup (aCons (wVar 2) (aCons (w2 fIxL (wLst (aCons (wC (.int 0)) (aCons (wC (.int 0)) (aCons (wC (.int 1)) (aCons (wNeg (wC (.int 2))) aNil))))) (wCal drawW (aCons (wVar 0) (aCons (wC (.int 4)) aNil)) [])) aNil))))) E m { nx := fun _ m => k .non m, rt := k }, rt := k } := by
    intro zs
    induction zs with
    | nil =>
      intro B m last _ hB hx hl hm
      have key : w2 fIxL (wLst (aCons (wC (.int 0)) (aCons (wC (.int 0)) (aCons (wC (.int 1)) (aCons (wNeg (wC (.int 2))) aNil))))) (wCal drawW (aCons (wVar 0) (aCons (wC (.int 4)) aNil)) []) [.sh .src, .sh (.lst (xs.map T.str)), .sh (bringsT B), last] m fun i m' => if 2 ≤ sizeLine then k (.tup [bringsT B, i]) m' else False := by
        refine pick5 (L := [.int 0, .int 0, .int 1, .int (-2)]) (M := 4) rfl (by rw [List.length_nil] at hm; omega) rfl (by decide) (by decide) (fun n k q => ?_) fun x hx' => ?_
        · show (if 4 ≤ sizeLine then _ else False)
          rw [if_pos (line_of (by decide))]
          exact q
        · rw [if_pos two_line]
          have ok : okW B := ⟨hB, fun y hy => hw y (hx y hy), by rw [List.length_nil] at hl; omega⟩
          simp only [List.mem_cons, List.not_mem_nil, or_false] at hx'
          rcases hx' with rfl | rfl | rfl | rfl <;> exact q B _ _ (by rw [List.length_nil] at hm; omega) ok
      exact key
    | cons z zs ih =>
      intro B m last hz hB hx hl hm
      rw [List.length_cons] at hl hm
      obtain ⟨x, hx', rfl⟩ := hz z List.mem_cons_self
      have key : w2 fIxL (wLst (aCons (wC (.int 1)) (aCons (wC (.int 1)) (aCons (wNeg (wC (.int 1))) (aCons (wC (.int 2)) (aCons (wNeg (wC (.int 3))) aNil)))))) (wCal drawW (aCons (wVar 0) (aCons (wC (.int 5)) aNil)) []) [.sh .src, .sh (.lst (xs.map T.str)), .ow (bringsT B), .sh (.str x)] m fun y m' => if (B.map fun b => (b.1, T.int b.2)).length < sizeLine then
          forL (wgName 3) (sPut 2 (wVar 3) (w2 fIxL (wLst (aCons (wC (.int 1)) (aCons (wC (.int 1)) (aCons (wNeg (wC (.int 1))) (aCons (wC (.int 2)) (aCons (wNeg (wC (.int 3))) aNil)))))) (wCal drawW (aCons (wVar 0) (aCons (wC (.int 5)) aNil)) []))) zs [.sh .src, .sh (.lst (xs.map T.str)), .ow (.dic (putT (B.map fun b => (b.1, T.int b.2)) x y)), .sh (.str x)] m' { nx := fun E m => (sFrz 2 (sRet (wTup (aCons (wVar 2) (aCons (w2 fIxL (wLst (aCons (wC (.int 0)) (aCons (wC (.int 0)) (aCons (wC (.int 1)) (aCons (wNeg (wC (.int 2))) aNil))))) (wCal drawW (aCons (wVar 0) (aCons (wC (.int 4)) aNil)) [])) aNil))))) E m { nx := fun _ m => k .non m, rt := k }, rt := k } else False := by
        refine pick5 (L := [.int 1, .int 1, .int (-1), .int 2, .int (-3)]) (M := 5) rfl (by omega) rfl (by decide) (by decide) (fun n k q => ?_) fun y hy => ?_
        · show (if 5 ≤ sizeLine then _ else False)
          rw [if_pos (line_of (by decide))]
          exact q
        · rw [if_pos (Nat.lt_of_lt_of_le (show _ < 1000 by rw [List.length_map]; omega) (line_of (by decide)))]
          have st : ∀ v : Int, forL (wgName 3) (sPut 2 (wVar 3) (w2 fIxL (wLst (aCons (wC (.int 1)) (aCons (wC (.int 1)) (aCons (wNeg (wC (.int 1))) (aCons (wC (.int 2)) (aCons (wNeg (wC (.int 3))) aNil)))))) (wCal drawW (aCons (wVar 0) (aCons (wC (.int 5)) aNil)) []))) zs [.sh .src, .sh (.lst (xs.map T.str)), .ow (.dic (putT (B.map fun b => (b.1, T.int b.2)) x (.int v))), .sh (.str x)] (m + 1) { nx := fun E m => (sFrz 2 (sRet (wTup (aCons (wVar 2) (aCons (w2 fIxL (wLst (aCons (wC (.int 0)) (aCons (wC (.int 0)) (aCons (wC (.int 1)) (aCons (wNeg (wC (.int 2))) aNil))))) (wCal drawW (aCons (wVar 0) (aCons (wC (.int 4)) aNil)) [])) aNil))))) E m { nx := fun _ m => k .non m, rt := k }, rt := k } := fun v => by
            obtain ⟨B', e, b1, b2, b3⟩ := put_brings (x := x) (v := v) hB
            rw [e]
            exact ih B' (m + 1) _ (fun z hz' => hz z (List.mem_cons_of_mem _ hz')) b1 (fun y hy => (b2 y hy).elim (hx y) fun e => e ▸ hx') (by omega) (by omega)
          simp only [List.mem_cons, List.not_mem_nil, or_false] at hy
          rcases hy with rfl | rfl | rfl | rfl | rfl <;> exact st _
      exact key
  have key : someW [.src, .lst (xs.map T.str)] n fun t m => match t with
      | .lst ts => forL (wgName 3) (sPut 2 (wVar 3) (w2 fIxL (wLst (aCons (wC (.int 1)) (aCons (wC (.int 1)) (aCons (wNeg (wC (.int 1))) (aCons (wC (.int 2)) (aCons (wNeg (wC (.int 3))) aNil)))))) (wCal drawW (aCons (wVar 0) (aCons (wC (.int 5)) aNil)) []))) (cutT ts none (some 3)) [.sh .src, .sh (.lst (xs.map T.str)), .ow (bringsT []), .no] m { nx := fun E m => (sFrz 2 (sRet (wTup (aCons (wVar 2) (aCons (w2 fIxL (wLst (aCons (wC (.int 0)) (aCons (wC (.int 0)) (aCons (wC (.int 1)) (aCons (wNeg (wC (.int 2))) aNil))))) (wCal drawW (aCons (wVar 0) (aCons (wC (.int 4)) aNil)) [])) aNil))))) E m { nx := fun _ m => k .non m, rt := k }, rt := k }
      | _ => False := by
    refine some_of (by omega) (by rw [List.length_map]; exact h1) (by rw [List.length_map]; omega) fun zs hz lz => ?_
    obtain ⟨c1, c2⟩ := cut_mem (ts := zs) (lo := none) (hi := some 3)
    rw [List.length_map] at lz ⊢
    refine loop _ [] _ _ (fun z hz' => ?_) (by simp [ks]) (by simp [ks]) (by rw [List.length_nil]; omega) (by omega)
    obtain ⟨x, hx, rfl⟩ := List.mem_map.mp (hz z (c1 z hz'))
    exact ⟨x, hx, rfl⟩
  exact key
end Lw
/-! ## Pu11 -/
set_option Elab.async false
set_option linter.all false
set_option maxRecDepth 100000
set_option maxHeartbeats 4000000
/-! Pu11: k10's drawn deeds and hooks; own work. -/
namespace Lw
open PySem PySem.Spec PyProof.Rows L2 _root_.Sl Tr
variable {Cs : List Addr} {CB CF CS : Addr} {n : Nat} {k : KT}
theorem fEq_nil {L : List Str} (h : ∀ x ∈ L, PyData.strOk x = true) : fEq (.lst (L.map T.str)) (.lst []) = some (.bl L.isEmpty) := by
  show (((dataAll (L.map T.str)).map PyData.list).bind fun d => (some (PyData.list [])).bind fun e => if SeqAt.shaped d && SeqAt.shaped e then some (T.bl (PyData.eqv d e)) else none) = _
  rw [data_strs]
  show (if SeqAt.shaped (.list (L.map PyData.str)) && SeqAt.shaped (.list ([].map PyData.str)) then some (T.bl (PyData.eqv (.list (L.map PyData.str)) (.list []))) else none) = _
  rw [shp_strs h, shp_strs (L := []) (fun x hx => by cases hx)]
  rw [if_pos (by rfl)]
  cases L with
  | nil => simp [PyData.eqv, PyData.eqvAll]
  | cons x r => simp [PyData.eqv, PyData.eqvAll]
theorem cnt_false {E : En} {V2 : WB} {L : List Str} {kk : Bool → Nat → Prop} (hE : E[2]? = some (.sh (.lst (L.map T.str)))) (h : ∀ x ∈ L, PyData.strOk x = true) (hL : L ≠ []) (q : kk false n) : bAnd (wVal (w2 fEq (wVar 2) (wLst aNil))) V2 E n kk := by
  have l0 : (0 : Nat) ≤ sizeLine := Nat.zero_le _
  have e : L.isEmpty = false := by cases L <;> first | rfl | exact absurd rfl hL
  simp only [bAnd, wVal, w2, wVar, hE, wLst, aNil, List.length_nil, l0, if_true, fEq_nil h, e, optS, Bool.false_eq_true, if_false]
  exact q
inductive Raw : T → Prop
  | ref : Raw (.str "refuse")
  | do_ {S : CT} {B : NI} : OkS S B → Raw (.tup [.str "do", turnsT S, bringsT B])
  | add {v c : Str} {B : NI} {i : Int} : v = "add" ∨ v = "set" → c.length ≤ 1000 → okW B → Raw (.tup [.str v, .str c, bringsT B, .int i])
structure Nm (xs : List Str) : Prop where
  nm : ∀ x ∈ xs, nameB x = true
  nd : xs.Nodup
theorem Nm.len {xs : List Str} (h : Nm xs) {x : Str} (hx : x ∈ xs) : x.length ≤ 8 := (nameB_len (h.nm x hx)).2
theorem oks_of {xs : List Str} {S : CT} {B : NI} (h : Nm xs) (hl : xs.length ≤ 8) (p : PlanT xs S B) : OkS S B := by
  refine ⟨h.nd.sublist p.tk, fun t ht => ⟨h.nm _ (p.tk.subset (List.mem_map.mpr ⟨t, ht, rfl⟩)), (p.tv t ht).1, fun z hz => h.nm z ((p.tv t ht).2 z hz)⟩, ?_, p.bk, fun b hb => ⟨h.nm _ (p.bx b hb).1, (p.bx b hb).2⟩, Nat.le_trans p.bl (by decide)⟩
  have := p.tk.length_le
  rw [List.length_map] at this
  omega
theorem plan_of {xs : List Str} (h : Nm xs) (h1 : 1 ≤ xs.length) (hl : xs.length ≤ 8) (hn : n ≤ 90000) (q : ∀ S B, OkS S B → k (.tup [turnsT S, bringsT B]) (n + 100)) : planW [.src, .lst (xs.map T.str)] n k :=
  ⟨xs, rfl, hn, h1, hl, h.nd, fun S B p => q S B (oks_of h hl p)⟩
theorem three_line : (3 : Nat) ≤ sizeLine := line_of (by decide)
theorem four_line : (4 : Nat) ≤ sizeLine := line_of (by decide)
theorem seq_draw {W2 : WS} {E : En} {D : EndT} {i : Nat} {M : Int} (hE : E[0]? = some (.sh .src)) (q : drawW [.src, .int M] n fun w n1 => W2 (E.set i (.sh w)) n1 D) : sSeq (sAsg (wCal drawW (aCons (wVar 0) (aCons (wC (.int M)) aNil)) []) (wgName i)) W2 E n D := by
  show wVar 0 E n fun t m => drawW ([t, .int M] ++ []) m fun w n1 => W2 (E.set i (.sh w)) n1 D
  unfold wVar
  rw [hE]
  exact q
theorem deed_of {xs cs : List Str} (hx : Nm xs) (hc : Nm cs) (lx : 1 ≤ xs.length) (lx2 : xs.length ≤ 3) (lc : 1 ≤ cs.length) (lc2 : cs.length ≤ 3) (hn : n ≤ 80000) (q : ∀ t n', n' ≤ n + 200 → Raw t → k t n') : wr_l_deed [.src, .lst (xs.map T.str), .lst (cs.map T.str)] n k := by
  refine ⟨rfl, ?_⟩
  have so : ∀ x ∈ cs, PyData.strOk x = true := fun x h => okStr_name (hc.nm x h)
  have hc0 : cs ≠ [] := by intro e; rw [e] at lc; exact absurd lc (by decide)
  unfold wb_l_deed
  have kPlan : ∀ (v : T) m, m ≤ n + 1 → planW [.src, .lst (xs.map T.str)] m fun t m' => (wgTup [4, 5]) t [.sh .src, .sh (.lst (xs.map T.str)), .sh (.lst (cs.map T.str)), .sh v, .no, .no, .no, .no, .no] fun E => (wTup (aCons (wC (.str "do")) (aCons (wVar 4) (aCons (wVar 5) aNil)))) E m' k := fun v m hm => by
    refine plan_of hx lx (by omega) (by omega) fun S B ok => ?_
    show (if 3 ≤ sizeLine then _ else False)
    rw [if_pos three_line]
    exact q _ _ (by omega) (.do_ ok)
  have kDo : ∀ m, m ≤ n + 1 → drawW [.src, .int 6] m fun t m' => (wIf (wVal (w2 (fI fun i j => .bl (decide (i < j))) (wVar 3) (wC (.int 2)))) (wC (.str "refuse")) (wTup (aCons (wC (.str "do")) (aCons wDNew (aCons (wIf (wVal (w2 (fI fun i j => .bl (decide (i < j))) (wVar 3) (wC (.int 5)))) (wDisp1 (wCal pickW (aCons (wVar 0) (aCons (wVar 1) aNil)) []) (wC (.int 1))) wDNew) aNil))))) [.sh .src, .sh (.lst (xs.map T.str)), .sh (.lst (cs.map T.str)), .sh t, .no, .no, .no, .no, .no] m' k := fun m hm => by
    have ok0 : OkS [] [] := ⟨List.nodup_nil, (fun t h => by cases h), Nat.zero_le _, List.nodup_nil, (fun b h => by cases h), Nat.zero_le _⟩
    have kP : ∀ m, m ≤ n + 2 → pickW [.src, .lst (xs.map T.str)] m fun x m' => opt (strO x) fun z => if 3 ≤ sizeLine then k (.tup [.str "do", .dic [], .dic [(z, .int 1)]]) m' else False := fun m hm => by
      refine pick_of (by omega) (by rw [List.length_map]; omega) (by rw [List.length_map]; omega) fun x hx' => ?_
      obtain ⟨z, hz, rfl⟩ := List.mem_map.mp hx'
      show (if 3 ≤ sizeLine then _ else False)
      rw [if_pos three_line]
      refine q _ _ (by omega) (.do_ (S := []) (B := [(z, 1)]) ⟨List.nodup_nil, (fun t h => by cases h), Nat.zero_le _, by simp [ks], fun b hb => ?_, (show 1 ≤ 8 by decide)⟩)
      rw [List.mem_singleton.mp hb]
      exact ⟨hx.nm z hz, (show (1 : Int) ≤ 1 by decide), (show (1 : Int) ≤ 9 by decide)⟩
    refine draw_of (m := 6) (by omega) (by decide) (by decide) fun j hj => ?_
    rcases (by omega : j = 0 ∨ j = 1 ∨ j = 2 ∨ j = 3 ∨ j = 4 ∨ j = 5) with rfl | rfl | rfl | rfl | rfl | rfl
    · exact q _ _ (by omega) .ref
    · exact q _ _ (by omega) .ref
    · exact kP _ (by omega)
    · exact kP _ (by omega)
    · exact kP _ (by omega)
    · show (if 3 ≤ sizeLine then k (.tup [.str "do", .dic [], .dic []]) (m + 1) else False)
      rw [if_pos three_line]
      exact q _ _ (by omega) (.do_ ok0)
  have kSum : ∀ (i : Int) (v : Str) m, (v = "add" ∨ v = "set") → fIxL (.lst [.str "add", .str "set"]) (.int (i - 3)) = some (.str v) → m ≤ n + 1 → opt (fCat (.lst (xs.map T.str)) (.lst (cs.map T.str))) fun l => wr_l_lots [.lst (xs.map T.str)] m fun l2 m2 => opt (fCat l l2) fun ws => wr_l_sum [.src, ws] m2 fun t m3 => (wgTup [7, 8]) t [.sh .src, .sh (.lst (xs.map T.str)), .sh (.lst (cs.map T.str)), .sh (.int i), .no, .no, .sh ws, .no, .no] fun E => (wTup (aCons (w2 fIxL (wLst (aCons (wC (.str "add")) (aCons (wC (.str "set")) aNil))) (w2 (fI fun i j => .int (i - j)) (wVar 3) (wC (.int 3)))) (aCons (wCal pickW (aCons (wVar 0) (aCons (wVar 2) aNil)) []) (aCons (wVar 7) (aCons (wVar 8) aNil))))) E m3 k := fun i v m hv hi hm => by
    have e1 : fCat (.lst (xs.map T.str)) (.lst (cs.map T.str)) = some (.lst ((xs ++ cs).map T.str)) := by
      rw [fCat_of (by rw [List.length_map, List.length_map]; omega), List.map_append]
    rw [e1, optS]
    refine lots_of (by omega) (fun x hx' => hx.len hx') ?_
    have e2 : fCat (.lst ((xs ++ cs).map T.str)) (.lst ((xs.map (("old." : Str) ++ ·) ++ xs.map (("new." : Str) ++ ·)).map T.str)) = some (.lst (((xs ++ cs) ++ (xs.map (("old." : Str) ++ ·) ++ xs.map (("new." : Str) ++ ·))).map T.str)) := by
      rw [fCat_of (by simp only [List.length_map, List.length_append]; omega), ← List.map_append]
    rw [e2, optS]
    have wl : ∀ (a : Str), a.length = 4 → ∀ x, x.length ≤ 8 → (a ++ x).length ≤ 1000 := fun a ha x hx => by
      have e : (a ++ x).length = a.length + x.length := by
        show (a ++ x).cps.size = a.cps.size + x.cps.size
        exact Array.size_append ..
      omega
    refine sum_of (by omega) (by simp only [List.length_map, List.length_append]; omega) (by simp only [List.length_map, List.length_append]; omega) (fun x hx' => ?_) fun B b n' hn' ok => ?_
    · rcases List.mem_append.mp hx' with h | h
      · rcases List.mem_append.mp h with h | h
        · exact ⟨word_name (hx.nm x h), Nat.le_trans (hx.len h) (by decide)⟩
        · exact ⟨word_name (hc.nm x h), Nat.le_trans (hc.len h) (by decide)⟩
      · rcases List.mem_append.mp h with h | h
        · obtain ⟨y, hy, rfl⟩ := List.mem_map.mp h
          exact ⟨word_lot (.inl rfl) (hx.nm y hy), wl _ (by decide +kernel) _ (hx.len hy)⟩
        · obtain ⟨y, hy, rfl⟩ := List.mem_map.mp h
          exact ⟨word_lot (.inr rfl) (hx.nm y hy), wl _ (by decide +kernel) _ (hx.len hy)⟩
    · show (if 2 ≤ sizeLine then opt (fIxL (.lst [.str "add", .str "set"]) (.int (i - 3))) (fun z => pickW [.src, .lst (cs.map T.str)] n' fun c m' => if 4 ≤ sizeLine then k (.tup [z, c, bringsT B, .int b]) m' else False) else False)
      rw [if_pos two_line, hi, optS]
      refine pick_of (n := n') (by omega) (by rw [List.length_map]; omega) (by rw [List.length_map]; omega) fun c hc' => ?_
      obtain ⟨z, hz, rfl⟩ := List.mem_map.mp hc'
      rw [if_pos four_line]
      exact q _ _ (by omega) (.add hv (Nat.le_trans (hc.len hz) (by decide)) ok)
  refine seq_draw rfl ?_
  refine draw_of (n := n) (m := 6) (by omega) (by decide) (by decide) fun j hj => ?_
  rcases (by omega : j = 0 ∨ j = 1 ∨ j = 2 ∨ j = 3 ∨ j = 4 ∨ j = 5) with rfl | rfl | rfl | rfl | rfl | rfl
  · exact kPlan _ _ (Nat.le_refl _)
  · exact kPlan _ _ (Nat.le_refl _)
  · exact kPlan _ _ (Nat.le_refl _)
  · have kb : (sSeq (sIf (wVal (w2 fEq (wVar 3) (wC (.int 5)))) (sSeq (sAsg (wCal drawW (aCons (wVar 0) (aCons (wC (.int 6)) aNil)) []) (wgName 3)) (sRet (wIf (wVal (w2 (fI fun i j => .bl (decide (i < j))) (wVar 3) (wC (.int 2)))) (wC (.str "refuse")) (wTup (aCons (wC (.str "do")) (aCons wDNew (aCons (wIf (wVal (w2 (fI fun i j => .bl (decide (i < j))) (wVar 3) (wC (.int 5)))) (wDisp1 (wCal pickW (aCons (wVar 0) (aCons (wVar 1) aNil)) []) (wC (.int 1))) wDNew) aNil))))))) sNil) (sSeq (sAsg (w2 fCat (w2 fCat (wVar 1) (wVar 2)) (wCal wr_l_lots (aCons (wVar 1) aNil) [])) (wgName 6)) (sSeq (sAsg (wCal wr_l_sum (aCons (wVar 0) (aCons (wVar 6) aNil)) []) (wgTup [7, 8])) (sRet (wTup (aCons (w2 fIxL (wLst (aCons (wC (.str "add")) (aCons (wC (.str "set")) aNil))) (w2 (fI fun i j => .int (i - j)) (wVar 3) (wC (.int 3)))) (aCons (wCal pickW (aCons (wVar 0) (aCons (wVar 2) aNil)) []) (aCons (wVar 7) (aCons (wVar 8) aNil))))))))) [.sh .src, .sh (.lst (xs.map T.str)), .sh (.lst (cs.map T.str)), .sh (.int 3), .no, .no, .no, .no, .no] (n + 1) { nx := fun _ m => k .non m, rt := k } := kSum 3 "add" _ (.inl rfl) (by rfl) (Nat.le_refl _)
    have key : (bAnd (wVal (w2 fEq (wVar 2) (wLst aNil))) (wVal (w2 (fI fun i j => .bl (decide (i < j))) (wVar 3) (wC (.int 5))))) [.sh .src, .sh (.lst (xs.map T.str)), .sh (.lst (cs.map T.str)), .sh (.int 3), .no, .no, .no, .no, .no] (n + 1) fun b m => if b = true then (sSeq (sAsg (wCal planW (aCons (wVar 0) (aCons (wVar 1) aNil)) []) (wgTup [4, 5])) (sRet (wTup (aCons (wC (.str "do")) (aCons (wVar 4) (aCons (wVar 5) aNil)))))) [.sh .src, .sh (.lst (xs.map T.str)), .sh (.lst (cs.map T.str)), .sh (.int 3), .no, .no, .no, .no, .no] m { nx := fun E' m => (sSeq (sIf (wVal (w2 fEq (wVar 3) (wC (.int 5)))) (sSeq (sAsg (wCal drawW (aCons (wVar 0) (aCons (wC (.int 6)) aNil)) []) (wgName 3)) (sRet (wIf (wVal (w2 (fI fun i j => .bl (decide (i < j))) (wVar 3) (wC (.int 2)))) (wC (.str "refuse")) (wTup (aCons (wC (.str "do")) (aCons wDNew (aCons (wIf (wVal (w2 (fI fun i j => .bl (decide (i < j))) (wVar 3) (wC (.int 5)))) (wDisp1 (wCal pickW (aCons (wVar 0) (aCons (wVar 1) aNil)) []) (wC (.int 1))) wDNew) aNil))))))) sNil) (sSeq (sAsg (w2 fCat (w2 fCat (wVar 1) (wVar 2)) (wCal wr_l_lots (aCons (wVar 1) aNil) [])) (wgName 6)) (sSeq (sAsg (wCal wr_l_sum (aCons (wVar 0) (aCons (wVar 6) aNil)) []) (wgTup [7, 8])) (sRet (wTup (aCons (w2 fIxL (wLst (aCons (wC (.str "add")) (aCons (wC (.str "set")) aNil))) (w2 (fI fun i j => .int (i - j)) (wVar 3) (wC (.int 3)))) (aCons (wCal pickW (aCons (wVar 0) (aCons (wVar 2) aNil)) []) (aCons (wVar 7) (aCons (wVar 8) aNil))))))))) E' m { nx := fun _ m => k .non m, rt := k }, rt := k } else (sSeq (sIf (wVal (w2 fEq (wVar 3) (wC (.int 5)))) (sSeq (sAsg (wCal drawW (aCons (wVar 0) (aCons (wC (.int 6)) aNil)) []) (wgName 3)) (sRet (wIf (wVal (w2 (fI fun i j => .bl (decide (i < j))) (wVar 3) (wC (.int 2)))) (wC (.str "refuse")) (wTup (aCons (wC (.str "do")) (aCons wDNew (aCons (wIf (wVal (w2 (fI fun i j => .bl (decide (i < j))) (wVar 3) (wC (.int 5)))) (wDisp1 (wCal pickW (aCons (wVar 0) (aCons (wVar 1) aNil)) []) (wC (.int 1))) wDNew) aNil))))))) sNil) (sSeq (sAsg (w2 fCat (w2 fCat (wVar 1) (wVar 2)) (wCal wr_l_lots (aCons (wVar 1) aNil) [])) (wgName 6)) (sSeq (sAsg (wCal wr_l_sum (aCons (wVar 0) (aCons (wVar 6) aNil)) []) (wgTup [7, 8])) (sRet (wTup (aCons (w2 fIxL (wLst (aCons (wC (.str "add")) (aCons (wC (.str "set")) aNil))) (w2 (fI fun i j => .int (i - j)) (wVar 3) (wC (.int 3)))) (aCons (wCal pickW (aCons (wVar 0) (aCons (wVar 2) aNil)) []) (aCons (wVar 7) (aCons (wVar 8) aNil))))))))) [.sh .src, .sh (.lst (xs.map T.str)), .sh (.lst (cs.map T.str)), .sh (.int 3), .no, .no, .no, .no, .no] m { nx := fun _ m => k .non m, rt := k } := cnt_false rfl so hc0 kb
    exact key
  · have kb : (sSeq (sIf (wVal (w2 fEq (wVar 3) (wC (.int 5)))) (sSeq (sAsg (wCal drawW (aCons (wVar 0) (aCons (wC (.int 6)) aNil)) []) (wgName 3)) (sRet (wIf (wVal (w2 (fI fun i j => .bl (decide (i < j))) (wVar 3) (wC (.int 2)))) (wC (.str "refuse")) (wTup (aCons (wC (.str "do")) (aCons wDNew (aCons (wIf (wVal (w2 (fI fun i j => .bl (decide (i < j))) (wVar 3) (wC (.int 5)))) (wDisp1 (wCal pickW (aCons (wVar 0) (aCons (wVar 1) aNil)) []) (wC (.int 1))) wDNew) aNil))))))) sNil) (sSeq (sAsg (w2 fCat (w2 fCat (wVar 1) (wVar 2)) (wCal wr_l_lots (aCons (wVar 1) aNil) [])) (wgName 6)) (sSeq (sAsg (wCal wr_l_sum (aCons (wVar 0) (aCons (wVar 6) aNil)) []) (wgTup [7, 8])) (sRet (wTup (aCons (w2 fIxL (wLst (aCons (wC (.str "add")) (aCons (wC (.str "set")) aNil))) (w2 (fI fun i j => .int (i - j)) (wVar 3) (wC (.int 3)))) (aCons (wCal pickW (aCons (wVar 0) (aCons (wVar 2) aNil)) []) (aCons (wVar 7) (aCons (wVar 8) aNil))))))))) [.sh .src, .sh (.lst (xs.map T.str)), .sh (.lst (cs.map T.str)), .sh (.int 4), .no, .no, .no, .no, .no] (n + 1) { nx := fun _ m => k .non m, rt := k } := kSum 4 "set" _ (.inr rfl) (by rfl) (Nat.le_refl _)
    have key : (bAnd (wVal (w2 fEq (wVar 2) (wLst aNil))) (wVal (w2 (fI fun i j => .bl (decide (i < j))) (wVar 3) (wC (.int 5))))) [.sh .src, .sh (.lst (xs.map T.str)), .sh (.lst (cs.map T.str)), .sh (.int 4), .no, .no, .no, .no, .no] (n + 1) fun b m => if b = true then (sSeq (sAsg (wCal planW (aCons (wVar 0) (aCons (wVar 1) aNil)) []) (wgTup [4, 5])) (sRet (wTup (aCons (wC (.str "do")) (aCons (wVar 4) (aCons (wVar 5) aNil)))))) [.sh .src, .sh (.lst (xs.map T.str)), .sh (.lst (cs.map T.str)), .sh (.int 4), .no, .no, .no, .no, .no] m { nx := fun E' m => (sSeq (sIf (wVal (w2 fEq (wVar 3) (wC (.int 5)))) (sSeq (sAsg (wCal drawW (aCons (wVar 0) (aCons (wC (.int 6)) aNil)) []) (wgName 3)) (sRet (wIf (wVal (w2 (fI fun i j => .bl (decide (i < j))) (wVar 3) (wC (.int 2)))) (wC (.str "refuse")) (wTup (aCons (wC (.str "do")) (aCons wDNew (aCons (wIf (wVal (w2 (fI fun i j => .bl (decide (i < j))) (wVar 3) (wC (.int 5)))) (wDisp1 (wCal pickW (aCons (wVar 0) (aCons (wVar 1) aNil)) []) (wC (.int 1))) wDNew) aNil))))))) sNil) (sSeq (sAsg (w2 fCat (w2 fCat (wVar 1) (wVar 2)) (wCal wr_l_lots (aCons (wVar 1) aNil) [])) (wgName 6)) (sSeq (sAsg (wCal wr_l_sum (aCons (wVar 0) (aCons (wVar 6) aNil)) []) (wgTup [7, 8])) (sRet (wTup (aCons (w2 fIxL (wLst (aCons (wC (.str "add")) (aCons (wC (.str "set")) aNil))) (w2 (fI fun i j => .int (i - j)) (wVar 3) (wC (.int 3)))) (aCons (wCal pickW (aCons (wVar 0) (aCons (wVar 2) aNil)) []) (aCons (wVar 7) (aCons (wVar 8) aNil))))))))) E' m { nx := fun _ m => k .non m, rt := k }, rt := k } else (sSeq (sIf (wVal (w2 fEq (wVar 3) (wC (.int 5)))) (sSeq (sAsg (wCal drawW (aCons (wVar 0) (aCons (wC (.int 6)) aNil)) []) (wgName 3)) (sRet (wIf (wVal (w2 (fI fun i j => .bl (decide (i < j))) (wVar 3) (wC (.int 2)))) (wC (.str "refuse")) (wTup (aCons (wC (.str "do")) (aCons wDNew (aCons (wIf (wVal (w2 (fI fun i j => .bl (decide (i < j))) (wVar 3) (wC (.int 5)))) (wDisp1 (wCal pickW (aCons (wVar 0) (aCons (wVar 1) aNil)) []) (wC (.int 1))) wDNew) aNil))))))) sNil) (sSeq (sAsg (w2 fCat (w2 fCat (wVar 1) (wVar 2)) (wCal wr_l_lots (aCons (wVar 1) aNil) [])) (wgName 6)) (sSeq (sAsg (wCal wr_l_sum (aCons (wVar 0) (aCons (wVar 6) aNil)) []) (wgTup [7, 8])) (sRet (wTup (aCons (w2 fIxL (wLst (aCons (wC (.str "add")) (aCons (wC (.str "set")) aNil))) (w2 (fI fun i j => .int (i - j)) (wVar 3) (wC (.int 3)))) (aCons (wCal pickW (aCons (wVar 0) (aCons (wVar 2) aNil)) []) (aCons (wVar 7) (aCons (wVar 8) aNil))))))))) [.sh .src, .sh (.lst (xs.map T.str)), .sh (.lst (cs.map T.str)), .sh (.int 4), .no, .no, .no, .no, .no] m { nx := fun _ m => k .non m, rt := k } := cnt_false rfl so hc0 kb
    exact key
  · have kb : (sSeq (sIf (wVal (w2 fEq (wVar 3) (wC (.int 5)))) (sSeq (sAsg (wCal drawW (aCons (wVar 0) (aCons (wC (.int 6)) aNil)) []) (wgName 3)) (sRet (wIf (wVal (w2 (fI fun i j => .bl (decide (i < j))) (wVar 3) (wC (.int 2)))) (wC (.str "refuse")) (wTup (aCons (wC (.str "do")) (aCons wDNew (aCons (wIf (wVal (w2 (fI fun i j => .bl (decide (i < j))) (wVar 3) (wC (.int 5)))) (wDisp1 (wCal pickW (aCons (wVar 0) (aCons (wVar 1) aNil)) []) (wC (.int 1))) wDNew) aNil))))))) sNil) (sSeq (sAsg (w2 fCat (w2 fCat (wVar 1) (wVar 2)) (wCal wr_l_lots (aCons (wVar 1) aNil) [])) (wgName 6)) (sSeq (sAsg (wCal wr_l_sum (aCons (wVar 0) (aCons (wVar 6) aNil)) []) (wgTup [7, 8])) (sRet (wTup (aCons (w2 fIxL (wLst (aCons (wC (.str "add")) (aCons (wC (.str "set")) aNil))) (w2 (fI fun i j => .int (i - j)) (wVar 3) (wC (.int 3)))) (aCons (wCal pickW (aCons (wVar 0) (aCons (wVar 2) aNil)) []) (aCons (wVar 7) (aCons (wVar 8) aNil))))))))) [.sh .src, .sh (.lst (xs.map T.str)), .sh (.lst (cs.map T.str)), .sh (.int 5), .no, .no, .no, .no, .no] (n + 1) { nx := fun _ m => k .non m, rt := k } := kDo _ (Nat.le_refl _)
    have key : (bAnd (wVal (w2 fEq (wVar 2) (wLst aNil))) (wVal (w2 (fI fun i j => .bl (decide (i < j))) (wVar 3) (wC (.int 5))))) [.sh .src, .sh (.lst (xs.map T.str)), .sh (.lst (cs.map T.str)), .sh (.int 5), .no, .no, .no, .no, .no] (n + 1) fun b m => if b = true then (sSeq (sAsg (wCal planW (aCons (wVar 0) (aCons (wVar 1) aNil)) []) (wgTup [4, 5])) (sRet (wTup (aCons (wC (.str "do")) (aCons (wVar 4) (aCons (wVar 5) aNil)))))) [.sh .src, .sh (.lst (xs.map T.str)), .sh (.lst (cs.map T.str)), .sh (.int 5), .no, .no, .no, .no, .no] m { nx := fun E' m => (sSeq (sIf (wVal (w2 fEq (wVar 3) (wC (.int 5)))) (sSeq (sAsg (wCal drawW (aCons (wVar 0) (aCons (wC (.int 6)) aNil)) []) (wgName 3)) (sRet (wIf (wVal (w2 (fI fun i j => .bl (decide (i < j))) (wVar 3) (wC (.int 2)))) (wC (.str "refuse")) (wTup (aCons (wC (.str "do")) (aCons wDNew (aCons (wIf (wVal (w2 (fI fun i j => .bl (decide (i < j))) (wVar 3) (wC (.int 5)))) (wDisp1 (wCal pickW (aCons (wVar 0) (aCons (wVar 1) aNil)) []) (wC (.int 1))) wDNew) aNil))))))) sNil) (sSeq (sAsg (w2 fCat (w2 fCat (wVar 1) (wVar 2)) (wCal wr_l_lots (aCons (wVar 1) aNil) [])) (wgName 6)) (sSeq (sAsg (wCal wr_l_sum (aCons (wVar 0) (aCons (wVar 6) aNil)) []) (wgTup [7, 8])) (sRet (wTup (aCons (w2 fIxL (wLst (aCons (wC (.str "add")) (aCons (wC (.str "set")) aNil))) (w2 (fI fun i j => .int (i - j)) (wVar 3) (wC (.int 3)))) (aCons (wCal pickW (aCons (wVar 0) (aCons (wVar 2) aNil)) []) (aCons (wVar 7) (aCons (wVar 8) aNil))))))))) E' m { nx := fun _ m => k .non m, rt := k }, rt := k } else (sSeq (sIf (wVal (w2 fEq (wVar 3) (wC (.int 5)))) (sSeq (sAsg (wCal drawW (aCons (wVar 0) (aCons (wC (.int 6)) aNil)) []) (wgName 3)) (sRet (wIf (wVal (w2 (fI fun i j => .bl (decide (i < j))) (wVar 3) (wC (.int 2)))) (wC (.str "refuse")) (wTup (aCons (wC (.str "do")) (aCons wDNew (aCons (wIf (wVal (w2 (fI fun i j => .bl (decide (i < j))) (wVar 3) (wC (.int 5)))) (wDisp1 (wCal pickW (aCons (wVar 0) (aCons (wVar 1) aNil)) []) (wC (.int 1))) wDNew) aNil))))))) sNil) (sSeq (sAsg (w2 fCat (w2 fCat (wVar 1) (wVar 2)) (wCal wr_l_lots (aCons (wVar 1) aNil) [])) (wgName 6)) (sSeq (sAsg (wCal wr_l_sum (aCons (wVar 0) (aCons (wVar 6) aNil)) []) (wgTup [7, 8])) (sRet (wTup (aCons (w2 fIxL (wLst (aCons (wC (.str "add")) (aCons (wC (.str "set")) aNil))) (w2 (fI fun i j => .int (i - j)) (wVar 3) (wC (.int 3)))) (aCons (wCal pickW (aCons (wVar 0) (aCons (wVar 2) aNil)) []) (aCons (wVar 7) (aCons (wVar 8) aNil))))))))) [.sh .src, .sh (.lst (xs.map T.str)), .sh (.lst (cs.map T.str)), .sh (.int 5), .no, .no, .no, .no, .no] m { nx := fun _ m => k .non m, rt := k } := cnt_false rfl so hc0 kb
    exact key
theorem made_deed_of (hF : CF ∈ Cs) (hS : CS ∈ Cs) {t : T} (h : Raw t) (q : ∀ t', PDeed Cs t' → k t' n) : wr_l_made_deed CF CS [t] n k := by
  refine ⟨rfl, ?_⟩
  unfold wb_l_made_deed
  have so : ∀ x : Str, x = "refuse" ∨ x = "do" ∨ x = "add" ∨ x = "set" → PyData.strOk x = true := fun x h => by
    rcases h with rfl | rfl | rfl | rfl <;> decide +kernel
  cases h with
  | ref =>
    have e : fEqTS (.str "refuse") (.str "refuse") = some (.bl true) := by
      show fEq (.str "refuse") (.str "refuse") = _
      rw [fEq_str (so _ (.inl rfl)) (so _ (.inl rfl)), decide_eq_true rfl]
    simp only [sRet, sIf, sSeq, sNil, sAsg, bOr, bAnd, bNot, wVal, wVar, wC, wIf, wAndV, wOrV, wNotV, wIsi, wCl, aCons, aNil, wCal, w2, wChain, wTup, wLst, wLc, iSeqT, iStrT, iEnumT, wM1, wSlS, wPart, wNoPart, startE, wipeE, optS, List.map_cons, List.map_nil, List.cons_append, List.nil_append, List.append_nil, List.length_cons, List.length_nil, List.getElem?_cons_zero, List.getElem?_cons_succ, List.set_cons_zero, List.set_cons_succ, List.replicate_succ, List.replicate_zero, List.any_cons, List.any_nil, Bool.or_false, if_true, Bool.false_eq_true, if_false, Nat.reduceAdd, Nat.reduceSub, Nat.add_one_sub_one, e]
    exact q _ (pdeed_of hF hS (so _ (.inl rfl)))
  | @do_ S B ok =>
    have e : fEqTS (.tup [.str "do", turnsT S, bringsT B]) (.str "refuse") = some (.bl false) := rfl
    have i0 : fIxT (.tup [.str "do", turnsT S, bringsT B]) (.int 0) = some (.str "do") := rfl
    have i1 : fIxT (.tup [.str "do", turnsT S, bringsT B]) (.int 1) = some (turnsT S) := rfl
    have i2 : fIxT (.tup [.str "do", turnsT S, bringsT B]) (.int 2) = some (bringsT B) := rfl
    have e2 : fEq (.str "do") (.str "do") = some (.bl true) := by rw [fEq_str (so _ (.inr (.inl rfl))) (so _ (.inr (.inl rfl))), decide_eq_true rfl]
    simp only [sRet, sIf, sSeq, sNil, sAsg, bOr, bAnd, bNot, wVal, wVar, wC, wIf, wAndV, wOrV, wNotV, wIsi, wCl, aCons, aNil, wCal, w2, wChain, wTup, wLst, wLc, iSeqT, iStrT, iEnumT, wM1, wSlS, wPart, wNoPart, startE, wipeE, optS, List.map_cons, List.map_nil, List.cons_append, List.nil_append, List.append_nil, List.length_cons, List.length_nil, List.getElem?_cons_zero, List.getElem?_cons_succ, List.set_cons_zero, List.set_cons_succ, List.replicate_succ, List.replicate_zero, List.any_cons, List.any_nil, Bool.or_false, if_true, Bool.false_eq_true, if_false, Nat.reduceAdd, Nat.reduceSub, Nat.add_one_sub_one, wStm, e, i0, i1, i2, e2]
    exact ⟨S, B, rfl, rfl, ok, q _ (pdeed_of hF hS (decide_eq_true rfl))⟩
  | @add v c B i hv hc ok =>
    have e : fEqTS (.tup [.str v, .str c, bringsT B, .int i]) (.str "refuse") = some (.bl false) := rfl
    have i0 : fIxT (.tup [.str v, .str c, bringsT B, .int i]) (.int 0) = some (.str v) := rfl
    have i1 : fIxT (.tup [.str v, .str c, bringsT B, .int i]) (.int 1) = some (.str c) := rfl
    have i2 : fIxT (.tup [.str v, .str c, bringsT B, .int i]) (.int 2) = some (bringsT B) := rfl
    have i3 : fIxT (.tup [.str v, .str c, bringsT B, .int i]) (.int 3) = some (.int i) := rfl
    have nv : v ≠ "do" := by rcases hv with rfl | rfl <;> decide +kernel
    have e2 : fEq (.str v) (.str "do") = some (.bl false) := by rw [fEq_str (so _ (.inr (.inr hv))) (so _ (.inr (.inl rfl))), decide_eq_false nv]
    simp only [sRet, sIf, sSeq, sNil, sAsg, bOr, bAnd, bNot, wVal, wVar, wC, wIf, wAndV, wOrV, wNotV, wIsi, wCl, aCons, aNil, wCal, w2, wChain, wTup, wLst, wLc, iSeqT, iStrT, iEnumT, wM1, wSlS, wPart, wNoPart, startE, wipeE, optS, List.map_cons, List.map_nil, List.cons_append, List.nil_append, List.append_nil, List.length_cons, List.length_nil, List.getElem?_cons_zero, List.getElem?_cons_succ, List.set_cons_zero, List.set_cons_succ, List.replicate_succ, List.replicate_zero, List.any_cons, List.any_nil, Bool.or_false, if_true, Bool.false_eq_true, if_false, Nat.reduceAdd, Nat.reduceSub, Nat.add_one_sub_one, wForm, e, i0, i1, i2, i3, e2]
    refine ⟨B, i, rfl, rfl, ok, ?_⟩
    rw [if_pos three_line]
    refine q _ (pdeed_of hF hS ?_)
    show (true && (true && ((true && decide (c.length ≤ 1000)) && decide (CF = CF)))) = true
    rw [decide_eq_true hc, decide_eq_true rfl]
    rfl
end Lw
/-! ## Pu12 -/
set_option Elab.async false
set_option linter.all false
set_option maxRecDepth 100000
set_option maxHeartbeats 4000000
/-! Pu12: k10's drawn hooks; own work. -/
namespace Lw
open PySem PySem.Spec PyProof.Rows L2 _root_.Sl Tr
variable {Cs : List Addr} {CB CF CS : Addr} {n : Nat} {k : KT}
theorem compL_n {We : WE} {E : En} {i c b : Nat} {P : T → Prop} : ∀ {xs acc : List T} {m : Nat} {k : KT}, (∀ x ∈ xs, ∀ m k, m ≤ b → (∀ t m', m' ≤ m + c → P t → k t m') → We (E.set i (.sh x)) m k) → (∀ a ∈ acc, P a) → acc.length + xs.length ≤ 1000 → m + c * xs.length ≤ b →
    (∀ zs m', (∀ z ∈ zs, P z) → zs.length = acc.length + xs.length → m' ≤ m + c * xs.length → k (.lst zs) m') → compL (wgName i) bYes We E xs acc m k
  | [], acc, m, k, _, ha, _, _, q => q acc m ha rfl (Nat.le_add_right _ _)
  | x :: xs, acc, m, k, h, ha, l, hb, q => by
    rw [List.length_cons] at l hb
    have e : c * (xs.length + 1) = c * xs.length + c := Nat.mul_succ _ _
    show We (E.set i (.sh x)) m fun y m2 => if acc.length < sizeLine then compL (wgName i) bYes We E xs (acc ++ [y]) m2 k else False
    refine h x List.mem_cons_self m _ (by omega) fun t m' hm pt => ?_
    rw [if_pos (Nat.lt_of_lt_of_le (show acc.length < 1000 by omega) (line_of (by decide)))]
    refine compL_n (b := b) (c := c) (P := P) (fun y hy => h y (List.mem_cons_of_mem _ hy)) (fun a ha' => ?_) (by rw [List.length_append, List.length_singleton]; omega) (by omega) fun zs m2 pz lz hm2 => q zs m2 pz (by rw [lz, List.length_append, List.length_singleton, List.length_cons]; omega) (by rw [List.length_cons]; omega)
    rcases List.mem_append.mp ha' with h1 | h1
    · exact ha a h1
    · rw [List.mem_singleton.mp h1]; exact pt
theorem body_of {xs cs : List Str} {nm : T} {ts : List T} {s5 s6 s7 s8 : Sl} {D : EndT} (hx : Nm xs) (lx : 1 ≤ xs.length) (lx2 : xs.length ≤ 3) (lt : ts.length ≤ 10) (hn : n ≤ 80000)
    (q : ∀ t s6 s7 m', PTest Cs t → m' ≤ n + 40 → D.nx [.sh .src, .sh nm, .sh (.lst (xs.map T.str)), .sh (.lst (cs.map T.str)), .ow (.lst (ts ++ [t])), s5, s6, s7, s8] m') :
    (sSeq (sAsg (w2 fIxL (wLst (aCons (wC (.int 0)) (aCons (wC (.int 0)) (aCons (wC (.int 1)) (aCons (wC (.int 1)) (aCons (wC (.int 2)) (aCons (wC (.int 3)) aNil))))))) (wCal drawW (aCons (wVar 0) (aCons (wC (.int 6)) aNil)) [])) (wgName 6)) (sSeq (sAsg (wIf (wVal (w2 fEq (wCal drawW (aCons (wVar 0) (aCons (wC (.int 2)) aNil)) []) (wC (.int 0)))) (wC .non) (wCal drawW (aCons (wVar 0) (aCons (wC (.int 4)) aNil)) [])) (wgName 7)) (sApp 4 (wTup (aCons (wSlL (wCal someW (aCons (wVar 0) (aCons (w2 fCat (wVar 2) (wCal wr_l_lots (aCons (wVar 2) aNil) [])) aNil)) []) wNoPart (wPart (wC (.int 4)))) (aCons (wVar 6) (aCons (wVar 7) aNil))))))) [.sh .src, .sh nm, .sh (.lst (xs.map T.str)), .sh (.lst (cs.map T.str)), .ow (.lst ts), s5, s6, s7, s8] n D := by
  have kR : ∀ (low mo : T) m, okTy Cs low = true → okTy Cs mo = true → m ≤ n + 5 → (sApp 4 (wTup (aCons (wSlL (wCal someW (aCons (wVar 0) (aCons (w2 fCat (wVar 2) (wCal wr_l_lots (aCons (wVar 2) aNil) [])) aNil)) []) wNoPart (wPart (wC (.int 4)))) (aCons (wVar 6) (aCons (wVar 7) aNil))))) [.sh .src, .sh nm, .sh (.lst (xs.map T.str)), .sh (.lst (cs.map T.str)), .ow (.lst ts), s5, .sh low, .sh mo, s8] m D := fun low mo m ol om hm => by
    have key : wr_l_lots [.lst (xs.map T.str)] m fun l2 m2 => opt (fCat (.lst (xs.map T.str)) l2) fun ws => someW [.src, ws] m2 fun t m3 => match t with
        | .lst zs => if 3 ≤ sizeLine then (if ts.length < sizeLine then D.nx [.sh .src, .sh nm, .sh (.lst (xs.map T.str)), .sh (.lst (cs.map T.str)), .ow (.lst (ts ++ [.tup [.lst (cutT zs none (some 4)), low, mo]])), s5, .sh low, .sh mo, s8] m3 else False) else False
        | _ => False := by
      refine lots_of (by omega) (fun x hx' => hx.len hx') ?_
      have e2 : fCat (.lst (xs.map T.str)) (.lst ((xs.map (("old." : Str) ++ ·) ++ xs.map (("new." : Str) ++ ·)).map T.str)) = some (.lst ((xs ++ (xs.map (("old." : Str) ++ ·) ++ xs.map (("new." : Str) ++ ·))).map T.str)) := by
        rw [fCat_of (by simp only [List.length_map, List.length_append]; omega), ← List.map_append]
      rw [e2, optS]
      have wl : ∀ (a : Str), a.length = 4 → ∀ x, x.length ≤ 8 → (a ++ x).length ≤ 1000 := fun a ha x hx => by
        have e : (a ++ x).length = a.length + x.length := by
          show (a ++ x).cps.size = a.cps.size + x.cps.size
          exact Array.size_append ..
        omega
      refine some_of (n := m) (by omega) (by simp only [List.length_map, List.length_append]; omega) (by simp only [List.length_map, List.length_append]; omega) fun zs hz lz => ?_
      simp only [List.length_map, List.length_append] at lz ⊢
      rw [if_pos three_line, if_pos (Nat.lt_of_lt_of_le (show ts.length < 1000 by omega) (line_of (by decide)))]
      refine q _ _ _ _ ⟨rfl, fun us e h3 => ?_⟩ (by omega)
      cases e
      obtain ⟨c1, c2⟩ := cut_mem (ts := zs) (lo := none) (hi := some 4)
      refine ⟨_, _, _, rfl, few_P (fun y hy => ?_) (by omega), ol, om⟩
      obtain ⟨x, hx', rfl⟩ := List.mem_map.mp (hz y (c1 y hy))
      refine ⟨rfl, fun z e => ?_⟩
      cases e
      rcases List.mem_append.mp hx' with h | h
      · exact Nat.le_trans (hx.len h) (by decide)
      · rcases List.mem_append.mp h with h | h
        · obtain ⟨y2, hy2, rfl⟩ := List.mem_map.mp h
          exact wl _ (by decide +kernel) _ (hx.len hy2)
        · obtain ⟨y2, hy2, rfl⟩ := List.mem_map.mp h
          exact wl _ (by decide +kernel) _ (hx.len hy2)
    exact key
  have key : w2 fIxL (wLst (aCons (wC (.int 0)) (aCons (wC (.int 0)) (aCons (wC (.int 1)) (aCons (wC (.int 1)) (aCons (wC (.int 2)) (aCons (wC (.int 3)) aNil))))))) (wCal drawW (aCons (wVar 0) (aCons (wC (.int 6)) aNil)) []) [.sh .src, .sh nm, .sh (.lst (xs.map T.str)), .sh (.lst (cs.map T.str)), .ow (.lst ts), s5, s6, s7, s8] n fun low m1 => drawW [.src, .int 2] m1 fun w m2 => opt (fEq w (.int 0)) fun z => match z with
      | .bl b => if b = true then (sApp 4 (wTup (aCons (wSlL (wCal someW (aCons (wVar 0) (aCons (w2 fCat (wVar 2) (wCal wr_l_lots (aCons (wVar 2) aNil) [])) aNil)) []) wNoPart (wPart (wC (.int 4)))) (aCons (wVar 6) (aCons (wVar 7) aNil))))) [.sh .src, .sh nm, .sh (.lst (xs.map T.str)), .sh (.lst (cs.map T.str)), .ow (.lst ts), s5, .sh low, .sh .non, s8] m2 D else drawW [.src, .int 4] m2 fun mo m3 => (sApp 4 (wTup (aCons (wSlL (wCal someW (aCons (wVar 0) (aCons (w2 fCat (wVar 2) (wCal wr_l_lots (aCons (wVar 2) aNil) [])) aNil)) []) wNoPart (wPart (wC (.int 4)))) (aCons (wVar 6) (aCons (wVar 7) aNil))))) [.sh .src, .sh nm, .sh (.lst (xs.map T.str)), .sh (.lst (cs.map T.str)), .ow (.lst ts), s5, .sh low, .sh mo, s8] m3 D
      | _ => False := by
    refine pick5 (L := [.int 0, .int 0, .int 1, .int 1, .int 2, .int 3]) (M := 6) rfl (by omega) rfl (by decide) (by decide) (fun n k q => ?_) fun low hlow => ?_
    · show (if 6 ≤ sizeLine then _ else False)
      rw [if_pos (line_of (by decide))]
      exact q
    · have ol : okTy Cs low = true := by
        simp only [List.mem_cons, List.not_mem_nil, or_false] at hlow
        rcases hlow with rfl | rfl | rfl | rfl | rfl | rfl <;> rfl
      refine draw_of (m := 2) (by omega) (by decide) (by decide) fun j hj => ?_
      rw [fEq_int, optS]
      by_cases hj0 : ((j : Nat) : Int) = 0
      · rw [decide_eq_true hj0]
        exact kR low .non _ ol rfl (by omega)
      · rw [decide_eq_false hj0]
        simp only [Bool.false_eq_true, if_false]
        refine draw_of (m := 4) (by omega) (by decide) (by decide) fun j hj => ?_
        exact kR low _ _ ol rfl (by omega)
  exact key
theorem rng_of {E : En} {j : Nat} {Wr : WA} {k : List T → Nat → Prop} {m : Nat} (hj : j ≤ 100) (hW : ∀ k, k [.int (j : Nat)] m → Wr E n k) (q : k ((List.range j).map fun i => .int (i : Nat)) m) : iRngT Wr E n k := by
  refine hW _ ?_
  show (if -(2 ^ 62) ≤ ((j : Nat) : Int) ∧ ((j : Nat) : Int) < 2 ^ 62 then _ else False)
  rw [if_pos ⟨by omega, by omega⟩]
  exact q
theorem hook_of {xs cs : List Str} {nm : T} (hx : Nm xs) (hc : Nm cs) (lx : 1 ≤ xs.length) (lx2 : xs.length ≤ 3) (lc : 1 ≤ cs.length) (lc2 : cs.length ≤ 3) (hn : n ≤ 60000)
    (q : ∀ (os ns : List Str) (ts ds : List T) n', n' ≤ n + 2000 → os.Sublist xs → ns.Sublist xs → (∀ t ∈ ts, PTest Cs t) → ts.length ≤ 4 → (∀ d ∈ ds, Raw d) → ds.length ≤ 4 → k (.tup [nm, .lst (os.map T.str), .lst (ns.map T.str), .lst ts, .lst ds]) n') :
    wr_l_hook [.src, nm, .lst (xs.map T.str), .lst (cs.map T.str)] n k := by
  refine ⟨rfl, ?_⟩
  have fin : ∀ (ts : List T) (s5 s6 s7 s8 : Sl) m, (∀ t ∈ ts, PTest Cs t) → ts.length ≤ 4 → m ≤ n + 300 → (sFrz 4 (sSeq (sAsg (wLc (iRngT (aCons (w2 fIxL (wLst (aCons (wC (.int 0)) (aCons (wC (.int 1)) (aCons (wC (.int 1)) (aCons (wC (.int 2)) (aCons (wC (.int 2)) (aCons (wC (.int 4)) aNil))))))) (wCal drawW (aCons (wVar 0) (aCons (wC (.int 6)) aNil)) [])) aNil)) (wgName 5) bYes (wCal wr_l_deed (aCons (wVar 0) (aCons (wVar 2) (aCons (wVar 3) aNil))) []) [5]) (wgName 8)) (sRet (wTup (aCons (wVar 1) (aCons (wCal subsetW (aCons (wVar 0) (aCons (wVar 2) aNil)) []) (aCons (wCal subsetW (aCons (wVar 0) (aCons (wVar 2) aNil)) []) (aCons (wVar 4) (aCons (wVar 8) aNil))))))))) [.sh .src, .sh nm, .sh (.lst (xs.map T.str)), .sh (.lst (cs.map T.str)), .ow (.lst ts), s5, s6, s7, s8] m { nx := fun _ m => k .non m, rt := k } := fun ts s5 s6 s7 s8 m pt lt hm => by
    have kRet : ∀ (ds : List T) m', (∀ d ∈ ds, Raw d) → ds.length ≤ 4 → m' ≤ n + 1500 → subsetW [.src, .lst (xs.map T.str)] m' fun o m1 => subsetW [.src, .lst (xs.map T.str)] m1 fun w m2 => if 5 ≤ sizeLine then k (.tup [nm, o, w, .lst ts, .lst ds]) m2 else False := fun ds m' pd ld hm' => by
      have sub : ∀ zs : List T, zs.Sublist (xs.map T.str) → ∃ os : List Str, os.Sublist xs ∧ zs = os.map T.str := fun zs h => by
        obtain ⟨os, h1, h2⟩ := List.sublist_map_iff.mp h
        exact ⟨os, h1, h2⟩
      refine ⟨xs.map T.str, rfl, by omega, by rw [List.length_map]; omega, fun zs hz => ?_⟩
      obtain ⟨os, h1, rfl⟩ := sub zs hz
      rw [List.length_map]
      refine ⟨xs.map T.str, rfl, by omega, by rw [List.length_map]; omega, fun zs hz => ?_⟩
      obtain ⟨ns, h2, rfl⟩ := sub zs hz
      rw [if_pos (line_of (by decide)), List.length_map]
      exact q os ns ts ds _ (by omega) h1 h2 pt lt pd ld
    have key : w2 fIxL (wLst (aCons (wC (.int 0)) (aCons (wC (.int 1)) (aCons (wC (.int 1)) (aCons (wC (.int 2)) (aCons (wC (.int 2)) (aCons (wC (.int 4)) aNil))))))) (wCal drawW (aCons (wVar 0) (aCons (wC (.int 6)) aNil)) []) [.sh .src, .sh nm, .sh (.lst (xs.map T.str)), .sh (.lst (cs.map T.str)), .sh (.lst ts), s5, s6, s7, s8] m fun j m' => (match ([j] : List T) with
          | [.int j] => if -(2 ^ 62) ≤ j ∧ j < 2 ^ 62 then compL (wgName 5) bYes (wCal wr_l_deed (aCons (wVar 0) (aCons (wVar 2) (aCons (wVar 3) aNil))) []) [.sh .src, .sh nm, .sh (.lst (xs.map T.str)), .sh (.lst (cs.map T.str)), .sh (.lst ts), .no, s6, s7, s8] ((List.range j.toNat).map fun i => .int (i : Nat)) [] m' fun l m2 => subsetW [.src, .lst (xs.map T.str)] m2 fun o m1 => subsetW [.src, .lst (xs.map T.str)] m1 fun w m2 => if 5 ≤ sizeLine then k (.tup [nm, o, w, .lst ts, l]) m2 else False else False
          | _ => False) := by
      refine pick5 (L := [.int 0, .int 1, .int 1, .int 2, .int 2, .int 4]) (M := 6) rfl (by omega) rfl (by decide) (by decide) (fun n k q => ?_) fun j hj => ?_
      · show (if 6 ≤ sizeLine then _ else False)
        rw [if_pos (line_of (by decide))]
        exact q
      · have go : ∀ a : Nat, a ≤ 4 → (if -(2 ^ 62) ≤ ((a : Nat) : Int) ∧ ((a : Nat) : Int) < 2 ^ 62 then compL (wgName 5) bYes (wCal wr_l_deed (aCons (wVar 0) (aCons (wVar 2) (aCons (wVar 3) aNil))) []) [.sh .src, .sh nm, .sh (.lst (xs.map T.str)), .sh (.lst (cs.map T.str)), .sh (.lst ts), .no, s6, s7, s8] ((List.range ((a : Nat) : Int).toNat).map fun i => .int (i : Nat)) [] (m + 1) fun l m2 => subsetW [.src, .lst (xs.map T.str)] m2 fun o m1 => subsetW [.src, .lst (xs.map T.str)] m1 fun w m2 => if 5 ≤ sizeLine then k (.tup [nm, o, w, .lst ts, l]) m2 else False else False) := fun a ha => by
          rw [if_pos ⟨by omega, by omega⟩]
          refine compL_n (b := 70000) (c := 200) (P := Raw) (fun x _ m k hm q => ?_) (fun a h => by cases h) (by simp; omega) (by simp; omega) fun zs m' pz lz hm' => ?_
          · exact deed_of hx hc lx lx2 lc lc2 (by omega) fun t n' hn' r => q t n' hn' r
          · have lz2 : zs.length = a := by simpa using lz
            have hm2 : m' ≤ m + 1 + 200 * a := by simpa using hm'
            exact kRet zs m' pz (by omega) (by omega)
        simp only [List.mem_cons, List.not_mem_nil, or_false] at hj
        rcases hj with rfl | rfl | rfl | rfl | rfl | rfl
        · exact go 0 (by decide)
        · exact go 1 (by decide)
        · exact go 1 (by decide)
        · exact go 2 (by decide)
        · exact go 2 (by decide)
        · exact go 4 (by decide)
    exact key
  have loop : ∀ (is : List T) (ts : List T) (s5 s6 s7 s8 : Sl) m, (∀ t ∈ ts, PTest Cs t) → ts.length + is.length ≤ 4 → m + 41 * is.length ≤ n + 200 →
      forL (wgName 5) (sSeq (sAsg (w2 fIxL (wLst (aCons (wC (.int 0)) (aCons (wC (.int 0)) (aCons (wC (.int 1)) (aCons (wC (.int 1)) (aCons (wC (.int 2)) (aCons (wC (.int 3)) aNil))))))) (wCal drawW (aCons (wVar 0) (aCons (wC (.int 6)) aNil)) [])) (wgName 6)) (sSeq (sAsg (wIf (wVal (w2 fEq (wCal drawW (aCons (wVar 0) (aCons (wC (.int 2)) aNil)) []) (wC (.int 0)))) (wC .non) (wCal drawW (aCons (wVar 0) (aCons (wC (.int 4)) aNil)) [])) (wgName 7)) (sApp 4 (wTup (aCons (wSlL (wCal someW (aCons (wVar 0) (aCons (w2 fCat (wVar 2) (wCal wr_l_lots (aCons (wVar 2) aNil) [])) aNil)) []) wNoPart (wPart (wC (.int 4)))) (aCons (wVar 6) (aCons (wVar 7) aNil))))))) is [.sh .src, .sh nm, .sh (.lst (xs.map T.str)), .sh (.lst (cs.map T.str)), .ow (.lst ts), s5, s6, s7, s8] m { nx := fun E m => (sFrz 4 (sSeq (sAsg (wLc (iRngT (aCons (w2 fIxL (wLst (aCons (wC (.int 0)) (aCons (wC (.int 1)) (aCons (wC (.int 1)) (aCons (wC (.int 2)) (aCons (wC (.int 2)) (aCons (wC (.int 4)) aNil))))))) (wCal drawW (aCons (wVar 0) (aCons (wC (.int 6)) aNil)) [])) aNil)) (wgName 5) bYes (wCal wr_l_deed (aCons (wVar 0) (aCons (wVar 2) (aCons (wVar 3) aNil))) []) [5]) (wgName 8)) (sRet (wTup (aCons (wVar 1) (aCons (wCal subsetW (aCons (wVar 0) (aCons (wVar 2) aNil)) []) (aCons (wCal subsetW (aCons (wVar 0) (aCons (wVar 2) aNil)) []) (aCons (wVar 4) (aCons (wVar 8) aNil))))))))) E m { nx := fun _ m => k .non m, rt := k }, rt := k } := by
    intro is
    induction is with
    | nil => exact fun ts s5 s6 s7 s8 m pt lt hm => fin ts s5 s6 s7 s8 m pt (by simpa using lt) (by simp at hm; omega)
    | cons i is ih =>
      intro ts s5 s6 s7 s8 m pt lt hm
      rw [List.length_cons] at lt hm
      have key : (sSeq (sAsg (w2 fIxL (wLst (aCons (wC (.int 0)) (aCons (wC (.int 0)) (aCons (wC (.int 1)) (aCons (wC (.int 1)) (aCons (wC (.int 2)) (aCons (wC (.int 3)) aNil))))))) (wCal drawW (aCons (wVar 0) (aCons (wC (.int 6)) aNil)) [])) (wgName 6)) (sSeq (sAsg (wIf (wVal (w2 fEq (wCal drawW (aCons (wVar 0) (aCons (wC (.int 2)) aNil)) []) (wC (.int 0)))) (wC .non) (wCal drawW (aCons (wVar 0) (aCons (wC (.int 4)) aNil)) [])) (wgName 7)) (sApp 4 (wTup (aCons (wSlL (wCal someW (aCons (wVar 0) (aCons (w2 fCat (wVar 2) (wCal wr_l_lots (aCons (wVar 2) aNil) [])) aNil)) []) wNoPart (wPart (wC (.int 4)))) (aCons (wVar 6) (aCons (wVar 7) aNil))))))) [.sh .src, .sh nm, .sh (.lst (xs.map T.str)), .sh (.lst (cs.map T.str)), .ow (.lst ts), .sh i, s6, s7, s8] m { ({ nx := fun E m => (sFrz 4 (sSeq (sAsg (wLc (iRngT (aCons (w2 fIxL (wLst (aCons (wC (.int 0)) (aCons (wC (.int 1)) (aCons (wC (.int 1)) (aCons (wC (.int 2)) (aCons (wC (.int 2)) (aCons (wC (.int 4)) aNil))))))) (wCal drawW (aCons (wVar 0) (aCons (wC (.int 6)) aNil)) [])) aNil)) (wgName 5) bYes (wCal wr_l_deed (aCons (wVar 0) (aCons (wVar 2) (aCons (wVar 3) aNil))) []) [5]) (wgName 8)) (sRet (wTup (aCons (wVar 1) (aCons (wCal subsetW (aCons (wVar 0) (aCons (wVar 2) aNil)) []) (aCons (wCal subsetW (aCons (wVar 0) (aCons (wVar 2) aNil)) []) (aCons (wVar 4) (aCons (wVar 8) aNil))))))))) E m { nx := fun _ m => k .non m, rt := k }, rt := k } : EndT) with nx := fun E2 m2 => forL (wgName 5) (sSeq (sAsg (w2 fIxL (wLst (aCons (wC (.int 0)) (aCons (wC (.int 0)) (aCons (wC (.int 1)) (aCons (wC (.int 1)) (aCons (wC (.int 2)) (aCons (wC (.int 3)) aNil))))))) (wCal drawW (aCons (wVar 0) (aCons (wC (.int 6)) aNil)) [])) (wgName 6)) (sSeq (sAsg (wIf (wVal (w2 fEq (wCal drawW (aCons (wVar 0) (aCons (wC (.int 2)) aNil)) []) (wC (.int 0)))) (wC .non) (wCal drawW (aCons (wVar 0) (aCons (wC (.int 4)) aNil)) [])) (wgName 7)) (sApp 4 (wTup (aCons (wSlL (wCal someW (aCons (wVar 0) (aCons (w2 fCat (wVar 2) (wCal wr_l_lots (aCons (wVar 2) aNil) [])) aNil)) []) wNoPart (wPart (wC (.int 4)))) (aCons (wVar 6) (aCons (wVar 7) aNil))))))) is E2 m2 { nx := fun E m => (sFrz 4 (sSeq (sAsg (wLc (iRngT (aCons (w2 fIxL (wLst (aCons (wC (.int 0)) (aCons (wC (.int 1)) (aCons (wC (.int 1)) (aCons (wC (.int 2)) (aCons (wC (.int 2)) (aCons (wC (.int 4)) aNil))))))) (wCal drawW (aCons (wVar 0) (aCons (wC (.int 6)) aNil)) [])) aNil)) (wgName 5) bYes (wCal wr_l_deed (aCons (wVar 0) (aCons (wVar 2) (aCons (wVar 3) aNil))) []) [5]) (wgName 8)) (sRet (wTup (aCons (wVar 1) (aCons (wCal subsetW (aCons (wVar 0) (aCons (wVar 2) aNil)) []) (aCons (wCal subsetW (aCons (wVar 0) (aCons (wVar 2) aNil)) []) (aCons (wVar 4) (aCons (wVar 8) aNil))))))))) E m { nx := fun _ m => k .non m, rt := k }, rt := k }, ct := fun E2 m2 => forL (wgName 5) (sSeq (sAsg (w2 fIxL (wLst (aCons (wC (.int 0)) (aCons (wC (.int 0)) (aCons (wC (.int 1)) (aCons (wC (.int 1)) (aCons (wC (.int 2)) (aCons (wC (.int 3)) aNil))))))) (wCal drawW (aCons (wVar 0) (aCons (wC (.int 6)) aNil)) [])) (wgName 6)) (sSeq (sAsg (wIf (wVal (w2 fEq (wCal drawW (aCons (wVar 0) (aCons (wC (.int 2)) aNil)) []) (wC (.int 0)))) (wC .non) (wCal drawW (aCons (wVar 0) (aCons (wC (.int 4)) aNil)) [])) (wgName 7)) (sApp 4 (wTup (aCons (wSlL (wCal someW (aCons (wVar 0) (aCons (w2 fCat (wVar 2) (wCal wr_l_lots (aCons (wVar 2) aNil) [])) aNil)) []) wNoPart (wPart (wC (.int 4)))) (aCons (wVar 6) (aCons (wVar 7) aNil))))))) is E2 m2 { nx := fun E m => (sFrz 4 (sSeq (sAsg (wLc (iRngT (aCons (w2 fIxL (wLst (aCons (wC (.int 0)) (aCons (wC (.int 1)) (aCons (wC (.int 1)) (aCons (wC (.int 2)) (aCons (wC (.int 2)) (aCons (wC (.int 4)) aNil))))))) (wCal drawW (aCons (wVar 0) (aCons (wC (.int 6)) aNil)) [])) aNil)) (wgName 5) bYes (wCal wr_l_deed (aCons (wVar 0) (aCons (wVar 2) (aCons (wVar 3) aNil))) []) [5]) (wgName 8)) (sRet (wTup (aCons (wVar 1) (aCons (wCal subsetW (aCons (wVar 0) (aCons (wVar 2) aNil)) []) (aCons (wCal subsetW (aCons (wVar 0) (aCons (wVar 2) aNil)) []) (aCons (wVar 4) (aCons (wVar 8) aNil))))))))) E m { nx := fun _ m => k .non m, rt := k }, rt := k }, bk := fun E m => (sFrz 4 (sSeq (sAsg (wLc (iRngT (aCons (w2 fIxL (wLst (aCons (wC (.int 0)) (aCons (wC (.int 1)) (aCons (wC (.int 1)) (aCons (wC (.int 2)) (aCons (wC (.int 2)) (aCons (wC (.int 4)) aNil))))))) (wCal drawW (aCons (wVar 0) (aCons (wC (.int 6)) aNil)) [])) aNil)) (wgName 5) bYes (wCal wr_l_deed (aCons (wVar 0) (aCons (wVar 2) (aCons (wVar 3) aNil))) []) [5]) (wgName 8)) (sRet (wTup (aCons (wVar 1) (aCons (wCal subsetW (aCons (wVar 0) (aCons (wVar 2) aNil)) []) (aCons (wCal subsetW (aCons (wVar 0) (aCons (wVar 2) aNil)) []) (aCons (wVar 4) (aCons (wVar 8) aNil))))))))) E m { nx := fun _ m => k .non m, rt := k } } := by
        refine body_of (Cs := Cs) hx lx lx2 (by omega) (by omega) fun t s6 s7 m' p hm' => ?_
        refine ih (ts ++ [t]) _ _ _ _ m' (fun y hy => ?_) (by rw [List.length_append, List.length_singleton]; omega) (by omega)
        rcases List.mem_append.mp hy with h | h
        · exact pt y h
        · rw [List.mem_singleton.mp h]; exact p
      exact key
  have key : drawW [.src, .int 4] n fun j m => (match ([j] : List T) with
      | [.int j] => if -(2 ^ 62) ≤ j ∧ j < 2 ^ 62 then forL (wgName 5) (sSeq (sAsg (w2 fIxL (wLst (aCons (wC (.int 0)) (aCons (wC (.int 0)) (aCons (wC (.int 1)) (aCons (wC (.int 1)) (aCons (wC (.int 2)) (aCons (wC (.int 3)) aNil))))))) (wCal drawW (aCons (wVar 0) (aCons (wC (.int 6)) aNil)) [])) (wgName 6)) (sSeq (sAsg (wIf (wVal (w2 fEq (wCal drawW (aCons (wVar 0) (aCons (wC (.int 2)) aNil)) []) (wC (.int 0)))) (wC .non) (wCal drawW (aCons (wVar 0) (aCons (wC (.int 4)) aNil)) [])) (wgName 7)) (sApp 4 (wTup (aCons (wSlL (wCal someW (aCons (wVar 0) (aCons (w2 fCat (wVar 2) (wCal wr_l_lots (aCons (wVar 2) aNil) [])) aNil)) []) wNoPart (wPart (wC (.int 4)))) (aCons (wVar 6) (aCons (wVar 7) aNil))))))) ((List.range j.toNat).map fun i => .int (i : Nat)) [.sh .src, .sh nm, .sh (.lst (xs.map T.str)), .sh (.lst (cs.map T.str)), .ow (.lst []), .no, .no, .no, .no] m { nx := fun E m => (sFrz 4 (sSeq (sAsg (wLc (iRngT (aCons (w2 fIxL (wLst (aCons (wC (.int 0)) (aCons (wC (.int 1)) (aCons (wC (.int 1)) (aCons (wC (.int 2)) (aCons (wC (.int 2)) (aCons (wC (.int 4)) aNil))))))) (wCal drawW (aCons (wVar 0) (aCons (wC (.int 6)) aNil)) [])) aNil)) (wgName 5) bYes (wCal wr_l_deed (aCons (wVar 0) (aCons (wVar 2) (aCons (wVar 3) aNil))) []) [5]) (wgName 8)) (sRet (wTup (aCons (wVar 1) (aCons (wCal subsetW (aCons (wVar 0) (aCons (wVar 2) aNil)) []) (aCons (wCal subsetW (aCons (wVar 0) (aCons (wVar 2) aNil)) []) (aCons (wVar 4) (aCons (wVar 8) aNil))))))))) E m { nx := fun _ m => k .non m, rt := k }, rt := k } else False
      | _ => False) := by
    refine draw_of (m := 4) (by omega) (by decide) (by decide) fun j hj => ?_
    show (if -(2 ^ 62) ≤ ((j : Nat) : Int) ∧ ((j : Nat) : Int) < 2 ^ 62 then _ else False)
    rw [if_pos ⟨by omega, by omega⟩]
    exact loop _ [] _ _ _ _ _ (fun t h => by cases h) (by simp; omega) (by simp; omega)
  unfold wb_l_hook
  show (if 0 ≤ sizeLine then _ else False)
  rw [if_pos (Nat.zero_le _)]
  exact key
end Lw
/-! ## Pu13 -/
set_option Elab.async false
set_option linter.all false
set_option maxRecDepth 100000
set_option maxHeartbeats 4000000
/-! Pu13: k10's law on trees; own work. -/
namespace Lw
open PySem PySem.Spec PyProof.Rows L2 _root_.Sl Tr
section
variable {Cs : List Addr} {CB CF CS CT : Addr} {n : Nat} {k : KT}
theorem ne_self {s t : Str} (hs : PyData.strOk s = true) (ht : PyData.strOk t = true) : fNe (.tup [.str s, .str t]) (.tup [.str s, .str t]) = some (.bl false) := by
  have sh : SeqAt.shaped (.tuple ([s, t].map PyData.str)) = true := by
    unfold SeqAt.shaped
    rw [show PyData.canLay0 (.tuple ([s, t].map PyData.str)) = PyData.canLayAll0 ([s, t].map PyData.str) by simp [PyData.canLay0], lay_strs [s, t] (fun x hx => by
      simp only [List.mem_cons, List.not_mem_nil, or_false] at hx
      rcases hx with rfl | rfl
      · exact hs
      · exact ht), Bool.true_and]
    refine decide_eq_true ?_
    have := deep_strs [s, t]
    simp only [PyData.depth]
    omega
  show (if SeqAt.shaped (.tuple ([s, t].map PyData.str)) && SeqAt.shaped (.tuple ([s, t].map PyData.str)) then some (T.bl (!PyData.eqv (.tuple ([s, t].map PyData.str)) (.tuple ([s, t].map PyData.str)))) else none) = _
  rw [sh, if_pos (by rfl)]
  simp [PyData.eqv, PyData.eqvAll]
theorem due_ne {a b c d e : T} : fNe (dueT CF CS a b c d e) (dueT CF CS a b c d e) = some (.bl false) := by
  have so : ∀ x ∈ badsOf (five CF CS a b c d e), PyData.strOk x = true := fun x hx => by
    obtain ⟨p, hp, rfl⟩ := List.mem_map.mp hx
    have hp := (List.mem_filter.mp hp).1
    simp only [five, List.mem_cons, List.not_mem_nil, or_false] at hp
    rcases hp with rfl | rfl | rfl | rfl | rfl <;> first | (show PyData.strOk ("name" : Str) = true; decide +kernel) | (show PyData.strOk ("olds" : Str) = true; decide +kernel) | (show PyData.strOk ("news" : Str) = true; decide +kernel) | (show PyData.strOk ("tests" : Str) = true; decide +kernel) | (show PyData.strOk ("deeds" : Str) = true; decide +kernel)
  have na : badsOf (five CF CS a b c d e) = [] → nmT a = true := fun h => by
    cases ha : nmT a with
    | true => rfl
    | false => simp [badsOf, five, ha] at h
  unfold dueT
  generalize badsOf (five CF CS a b c d e) = L at so na
  cases L with
  | nil =>
    have ha := na rfl
    cases a <;> try cases ha
    exact ne_self (by decide +kernel) (okStr_name ha)
  | cons s r => exact ne_self (by decide +kernel) (so s List.mem_cons_self)
theorem P5.at {p0 p1 p2 p3 p4 t : T} {j : Nat} (h : P5 Cs p0 p1 p2 p3 p4) (hj : j < 5) (t0 : j = 0 → PName Cs t) (t1 : j = 1 ∨ j = 2 → PSeq Cs (PName Cs) t) (t3 : j = 3 → PSeq Cs (PTest Cs) t) (t4 : j = 4 → PSeq Cs (PDeed Cs) t) :
    ∃ q0 q1 q2 q3 q4, [p0, p1, p2, p3, p4].set j t = [q0, q1, q2, q3, q4] ∧ P5 Cs q0 q1 q2 q3 q4 := by
  rcases (by omega : j = 0 ∨ j = 1 ∨ j = 2 ∨ j = 3 ∨ j = 4) with rfl | rfl | rfl | rfl | rfl
  · exact ⟨t, p1, p2, p3, p4, rfl, t0 rfl, h.b, h.c, h.d, h.e⟩
  · exact ⟨p0, t, p2, p3, p4, rfl, h.a, t1 (.inl rfl), h.c, h.d, h.e⟩
  · exact ⟨p0, p1, t, p3, p4, rfl, h.a, h.b, t1 (.inr rfl), h.d, h.e⟩
  · exact ⟨p0, p1, p2, t, p4, rfl, h.a, h.b, h.c, t3 rfl, h.e⟩
  · exact ⟨p0, p1, p2, p3, t, rfl, h.a, h.b, h.c, h.d, t4 rfl⟩
theorem odd_of (hF : CF ∈ Cs) (hS : CS ∈ Cs) {j : Nat} (hj : j < 5) (hn : n ≤ 98000) (q : ∀ t n', n' ≤ n + 20 → (j = 0 → PName Cs t) → (j = 1 ∨ j = 2 → PSeq Cs (PName Cs) t) → (j = 3 → PSeq Cs (PTest Cs) t) → (j = 4 → PSeq Cs (PDeed Cs) t) → k t n') : wr_l_odd CF [.src, .int (j : Nat)] n k := by
  rcases (by omega : j = 0 ∨ j = 1 ∨ j = 2 ∨ j = 3 ∨ j = 4) with rfl | rfl | rfl | rfl | rfl
  · exact odd0_of (Cs := Cs) hn fun t p => q t _ (by omega) (fun _ => p) (fun h => by omega) (fun h => by omega) (fun h => by omega)
  · exact odd12_of (Cs := Cs) (.inl rfl) hn fun t p => q t _ (by omega) (fun h => by omega) (fun _ => p) (fun h => by omega) (fun h => by omega)
  · exact odd12_of (Cs := Cs) (.inr rfl) hn fun t p => q t _ (by omega) (fun h => by omega) (fun _ => p) (fun h => by omega) (fun h => by omega)
  · exact odd3_of hF hS hn fun t n' h p => q t n' h (fun h => by omega) (fun h => by omega) (fun _ => p) (fun h => by omega)
  · exact odd4_of hF hS hn fun t n' h p => q t n' h (fun h => by omega) (fun h => by omega) (fun h => by omega) (fun _ => p)
theorem last_of' {E : En} {p0 p1 p2 p3 p4 : T} {D : EndT} (h : P5 Cs p0 p1 p2 p3 p4) (hE : E[9]? = some (.ow (.lst [p0, p1, p2, p3, p4]))) (q : D.nx (E.set 9 (.sh (.lst [p0, p1, p2, p3, p4]))) n) : (sFrz 9 (sIf (wVal (w2 fNe (wCal (trW CB CT (wr_Trigger___init__ Cs CB CF CS CT) (wr_Trigger_label CT)) (aCons (wVar 9) aNil) []) (wCal (wr_l_due Cs CF CS) (aCons (wVar 9) aNil) []))) (sRet (wC (.bl false))) sNil)) E n D := by
  have g : (E.set 9 (.sh (.lst [p0, p1, p2, p3, p4])))[9]? = some (.sh (.lst [p0, p1, p2, p3, p4])) := List.getElem?_set_self (List.getElem?_eq_some_iff.mp hE).1
  simp only [sFrz, hE, sIf, wVal, w2, wCal, aCons, aNil, wVar, g]
  refine tried_of h (due_of h ?_)
  rw [due_ne, optS]
  exact q
theorem inner_of {p0 p1 p2 p3 p4 : T} {E : En} {D : EndT} (hF : CF ∈ Cs) (hS : CS ∈ Cs) (h : P5 Cs p0 p1 p2 p3 p4) (l : E.length = 13) (h1 : E[1]? = some (.sh .src)) (h9 : E[9]? = some (.ow (.lst [p0, p1, p2, p3, p4]))) (hn : n ≤ 90000)
    (q : ∀ E' q0 q1 q2 q3 q4 n', P5 Cs q0 q1 q2 q3 q4 → E'.length = 13 → E'[1]? = some (.sh .src) → E'[2]? = E[2]? → E'[9]? = some (.ow (.lst [q0, q1, q2, q3, q4])) → n' ≤ n + 30 → D.nx E' n') : (sSeq (sAsg (wCal drawW (aCons (wVar 1) (aCons (wC (.int 5)) aNil)) []) (wgName 11)) (sLPut 9 (wVar 11) (wCal (wr_l_odd CF) (aCons (wVar 1) (aCons (wVar 11) aNil)) []))) E n D := by
  have key : drawW [.src, .int 5] n fun w m => (wCal (wr_l_odd CF) (aCons (wVar 1) (aCons (wVar 11) aNil)) []) (E.set 11 (.sh w)) m fun y m' => opt (owL (E.set 11 (.sh w)) 9) fun xs => wVar 11 (E.set 11 (.sh w)) m' fun k m2 => opt (intO k) fun z => opt (ixN xs.length z) fun j => D.nx ((E.set 11 (.sh w)).set 9 (.ow (.lst (xs.set j y)))) m2 := by
    refine draw_of (m := 5) (by omega) (by decide) (by decide) fun j hj => ?_
    have g1 : (E.set 11 (.sh (.int (j : Nat))))[1]? = some (.sh .src) := by rw [List.getElem?_set_ne (by decide)]; exact h1
    have g2 : (E.set 11 (.sh (.int (j : Nat))))[2]? = E[2]? := by rw [List.getElem?_set_ne (by decide)]
    have g9 : (E.set 11 (.sh (.int (j : Nat))))[9]? = some (.ow (.lst [p0, p1, p2, p3, p4])) := by rw [List.getElem?_set_ne (by decide)]; exact h9
    have g11 : (E.set 11 (.sh (.int (j : Nat))))[11]? = some (.sh (.int (j : Nat))) := List.getElem?_set_self (by omega)
    have eo : owL (E.set 11 (.sh (.int (j : Nat)))) 9 = some [p0, p1, p2, p3, p4] := by unfold owL; rw [g9]
    have ei : ixN 5 ((j : Nat) : Int) = some j := by
      unfold ixN
      rw [if_pos (by omega), if_pos (by omega), Int.toNat_natCast]
    simp only [wCal, aCons, aNil, wVar, g1, g11, eo, optS]
    refine odd_of hF hS hj (by omega) fun t n' hn' t0 t1 t3 t4 => ?_
    obtain ⟨q0, q1, q2, q3, q4, e, h5⟩ := h.at hj t0 t1 t3 t4
    rw [show intO (.int (j : Nat)) = some ((j : Nat) : Int) from rfl, optS, show ixN [p0, p1, p2, p3, p4].length ((j : Nat) : Int) = some j from ei, optS, e]
    exact q _ q0 q1 q2 q3 q4 n' h5 (by rw [List.length_set, List.length_set]; exact l) (by rw [List.getElem?_set_ne (by decide)]; exact g1) (by rw [List.getElem?_set_ne (by decide)]; exact g2) (List.getElem?_set_self (by rw [List.length_set]; omega)) (by omega)
  show wVar 1 E n fun t m => drawW ([t, .int 5] ++ []) m fun w m => (wCal (wr_l_odd CF) (aCons (wVar 1) (aCons (wVar 11) aNil)) []) (E.set 11 (.sh w)) m fun y m' => opt (owL (E.set 11 (.sh w)) 9) fun xs => wVar 11 (E.set 11 (.sh w)) m' fun k m2 => opt (intO k) fun z => opt (ixN xs.length z) fun j => D.nx ((E.set 11 (.sh w)).set 9 (.ow (.lst (xs.set j y)))) m2
  have e1 : ∀ kk : T → Nat → Prop, kk .src n → wVar 1 E n kk := fun kk hk => by unfold wVar; rw [h1]; exact hk
  exact e1 _ key
end
end Lw
/-! ## Pu14 -/
set_option Elab.async false
set_option linter.all false
set_option maxRecDepth 100000
set_option maxHeartbeats 4000000
/-! Pu14: k10's law on trees, whole; own work. -/
namespace Lw
open PySem PySem.Spec PyProof.Rows L2 _root_.Sl Tr
section
variable {Cs : List Addr} {CB CF CS CT : Addr} {n : Nat} {k : KT}
theorem few_names {os xs : List Str} (hx : Nm xs) (lx : xs.length ≤ 3) (h : os.Sublist xs) : PSeq Cs (PName Cs) (.lst (os.map T.str)) := by
  refine few_P (fun y hy => ?_) (by have := h.length_le; rw [List.length_map]; omega)
  obtain ⟨x, hx', rfl⟩ := List.mem_map.mp hy
  exact ⟨rfl, fun z e => by cases e; exact Nat.le_trans (hx.len (h.subset hx')) (by decide)⟩
theorem turn_hook {R : WS} {E : En} {D : EndT} {a b c d : Str} (hx : Nm [a, b]) (hc : Nm [c]) (h1 : E[1]? = some (.sh .src)) (h2 : E[2]? = some (.sh (.lst [.str a, .str b, .str c, .str d]))) (hn : n ≤ 60000)
    (q : ∀ (o w t e : T) (ds : List T) n', n' ≤ n + 2000 → e = .lst ds → PSeq Cs (PName Cs) o → PSeq Cs (PName Cs) w → PSeq Cs (PTest Cs) t → (∀ d ∈ ds, Raw d) → ds.length ≤ 4 → R (((((E.set 4 (.sh (.str d))).set 5 (.sh o)).set 6 (.sh w)).set 7 (.sh t)).set 8 (.sh e)) n' D) :
    sSeq (sAsg (wCal wr_l_hook (aCons (wVar 1) (aCons (w2 fIxL (wVar 2) (wC (.int 3))) (aCons (wSlL (wVar 2) wNoPart (wPart (wC (.int 2)))) (aCons (wSlL (wVar 2) (wPart (wC (.int 2))) (wPart (wC (.int 3)))) aNil)))) []) (wgTup [4, 5, 6, 7, 8])) R E n D := by
  have key : wr_l_hook [.src, .str d, .lst ([a, b].map T.str), .lst ([c].map T.str)] n fun t m' => (wgTup [4, 5, 6, 7, 8]) t E fun E' => R E' m' D := by
    refine hook_of (Cs := Cs) hx hc (show 1 ≤ 2 by decide) (show 2 ≤ 3 by decide) (show 1 ≤ 1 by decide) (show 1 ≤ 3 by decide) hn fun os ns ts ds n' hn' ho hw pt lt pd ld => ?_
    exact q _ _ _ _ ds n' hn' rfl (few_names hx (show 2 ≤ 3 by decide) ho) (few_names hx (show 2 ≤ 3 by decide) hw) (few_P pt (by omega)) pd ld
  have e3 : fIxL (.lst [.str a, .str b, .str c, .str d]) (.int 3) = some (.str d) := rfl
  simp only [sSeq, sAsg, wCal, aCons, aNil, wVar, h1, h2, w2, wC, e3, optS, wSlL, wNoPart, wPart]
  exact key
theorem turn_own {R : WS} {E : En} {D : EndT} {nm o w t : T} {ds : List T} (hF : CF ∈ Cs) (hS : CS ∈ Cs) (l : E.length = 13) (h4 : E[4]? = some (.sh nm)) (h5 : E[5]? = some (.sh o)) (h6 : E[6]? = some (.sh w)) (h7 : E[7]? = some (.sh t)) (h8 : E[8]? = some (.sh (.lst ds))) (pd : ∀ d ∈ ds, Raw d) (ld : ds.length ≤ 4)
    (q : ∀ L m', m' ≤ n → PSeq Cs (PDeed Cs) (.lst L) → R (E.set 9 (.ow (.lst [nm, o, w, t, .lst L]))) m' D) : sSeq (sOwn (wLst (aCons (wVar 4) (aCons (wVar 5) (aCons (wVar 6) (aCons (wVar 7) (aCons (wLc (iLst (wVar 8)) (wgName 12) bYes (wCal (wr_l_made_deed CF CS) (aCons (wVar 12) aNil) []) [12]) aNil)))))) 9) R E n D := by
  have key : compL (wgName 12) bYes (wCal (wr_l_made_deed CF CS) (aCons (wVar 12) aNil) []) (E.set 12 .no) ds [] n fun l m => if [nm, o, w, t, l].length ≤ sizeLine then (if isLD (.lst [nm, o, w, t, l]) = true then R (E.set 9 (.ow (.lst [nm, o, w, t, l]))) m D else False) else False := by
    refine compL_n (b := n) (c := 0) (P := PDeed Cs) (fun x hx m k hm q => ?_) (fun a h => by cases h) (by rw [List.length_nil]; omega) (by omega) fun zs m' pz lz hm' => ?_
    · have g : ((E.set 12 .no).set 12 (.sh x))[12]? = some (.sh x) := List.getElem?_set_self (by rw [List.length_set]; omega)
      simp only [wCal, aCons, aNil, wVar, g]
      exact made_deed_of hF hS (pd x hx) fun t' p => q t' m (by omega) p
    · have hm0 : m' ≤ n := by omega
      rw [if_pos (show [nm, o, w, t, T.lst zs].length ≤ sizeLine from line_of (show 5 ≤ 1000 by decide)), if_pos (show isLD (T.lst [nm, o, w, t, T.lst zs]) = true from rfl)]
      have lz2 : zs.length = ds.length := by simpa using lz
      exact q zs m' hm0 (few_P pz (by omega))
  simp only [sSeq, sOwn, wLst, aCons, aNil, wVar, h4, h5, h6, h7, wLc, iLst, h8]
  exact key
theorem inner_loop (hF : CF ∈ Cs) (hS : CS ∈ Cs) {N2 : Option Sl} {D : EndT} (b : Nat) (hb : b ≤ 80000) : ∀ (is : List T) (E : En) (p0 p1 p2 p3 p4 : T) (m : Nat), P5 Cs p0 p1 p2 p3 p4 → E.length = 13 → E[1]? = some (.sh .src) → E[2]? = N2 → E[9]? = some (.ow (.lst [p0, p1, p2, p3, p4])) → m + 31 * is.length ≤ b →
    (∀ E' q0 q1 q2 q3 q4 n', P5 Cs q0 q1 q2 q3 q4 → E'.length = 13 → E'[1]? = some (.sh .src) → E'[2]? = N2 → E'[9]? = some (.ow (.lst [q0, q1, q2, q3, q4])) → n' ≤ b → D.nx E' n') → forL (wgName 10) (sSeq (sAsg (wCal drawW (aCons (wVar 1) (aCons (wC (.int 5)) aNil)) []) (wgName 11)) (sLPut 9 (wVar 11) (wCal (wr_l_odd CF) (aCons (wVar 1) (aCons (wVar 11) aNil)) []))) is E m D := by
  intro is
  induction is with
  | nil => exact fun E p0 p1 p2 p3 p4 m h l h1 h2 h9 hm q => q E p0 p1 p2 p3 p4 m h l h1 h2 h9 (by simpa using hm)
  | cons i is ih =>
    intro E p0 p1 p2 p3 p4 m h l h1 h2 h9 hm q
    rw [List.length_cons] at hm
    have key : (sSeq (sAsg (wCal drawW (aCons (wVar 1) (aCons (wC (.int 5)) aNil)) []) (wgName 11)) (sLPut 9 (wVar 11) (wCal (wr_l_odd CF) (aCons (wVar 1) (aCons (wVar 11) aNil)) []))) (E.set 10 (.sh i)) m { D with nx := fun E2 m2 => forL (wgName 10) (sSeq (sAsg (wCal drawW (aCons (wVar 1) (aCons (wC (.int 5)) aNil)) []) (wgName 11)) (sLPut 9 (wVar 11) (wCal (wr_l_odd CF) (aCons (wVar 1) (aCons (wVar 11) aNil)) []))) is E2 m2 D, ct := fun E2 m2 => forL (wgName 10) (sSeq (sAsg (wCal drawW (aCons (wVar 1) (aCons (wC (.int 5)) aNil)) []) (wgName 11)) (sLPut 9 (wVar 11) (wCal (wr_l_odd CF) (aCons (wVar 1) (aCons (wVar 11) aNil)) []))) is E2 m2 D, bk := D.nx } := by
      refine inner_of hF hS h (by rw [List.length_set]; exact l) (by rw [List.getElem?_set_ne (by decide)]; exact h1) (by rw [List.getElem?_set_ne (by decide)]; exact h9) (by omega) fun E' q0 q1 q2 q3 q4 n' h5 l' g1 g2 g9 hn' => ?_
      exact ih E' q0 q1 q2 q3 q4 n' h5 l' g1 (g2.trans (by rw [List.getElem?_set_ne (by decide)]; exact h2)) g9 (by omega) q
    exact key
theorem turn_of {E : En} {D : EndT} {a b c d : Str} (hF : CF ∈ Cs) (hS : CS ∈ Cs) (hx : Nm [a, b]) (hc : Nm [c]) (hd : d.length ≤ 8) (l : E.length = 13) (h1 : E[1]? = some (.sh .src)) (h2 : E[2]? = some (.sh (.lst [.str a, .str b, .str c, .str d]))) (hn : n ≤ 60000)
    (q : ∀ E' n', E'.length = 13 → E'[1]? = some (.sh .src) → E'[2]? = some (.sh (.lst [.str a, .str b, .str c, .str d])) → n' ≤ n + 3000 → D.nx E' n') : (sSeq (sAsg (wCal wr_l_hook (aCons (wVar 1) (aCons (w2 fIxL (wVar 2) (wC (.int 3))) (aCons (wSlL (wVar 2) wNoPart (wPart (wC (.int 2)))) (aCons (wSlL (wVar 2) (wPart (wC (.int 2))) (wPart (wC (.int 3)))) aNil)))) []) (wgTup [4, 5, 6, 7, 8])) (sSeq (sOwn (wLst (aCons (wVar 4) (aCons (wVar 5) (aCons (wVar 6) (aCons (wVar 7) (aCons (wLc (iLst (wVar 8)) (wgName 12) bYes (wCal (wr_l_made_deed CF CS) (aCons (wVar 12) aNil) []) [12]) aNil)))))) 9) (sSeq (sFor (iRngT (aCons (wCal drawW (aCons (wVar 1) (aCons (wC (.int 4)) aNil)) []) aNil)) (wgName 10) (sSeq (sAsg (wCal drawW (aCons (wVar 1) (aCons (wC (.int 5)) aNil)) []) (wgName 11)) (sLPut 9 (wVar 11) (wCal (wr_l_odd CF) (aCons (wVar 1) (aCons (wVar 11) aNil)) [])))) (sFrz 9 (sIf (wVal (w2 fNe (wCal (trW CB CT (wr_Trigger___init__ Cs CB CF CS CT) (wr_Trigger_label CT)) (aCons (wVar 9) aNil) []) (wCal (wr_l_due Cs CF CS) (aCons (wVar 9) aNil) []))) (sRet (wC (.bl false))) sNil))))) E n D := by
  refine turn_hook (Cs := Cs) hx hc h1 h2 hn fun o w t e ds n' hn' he po pw pt pd ld => ?_
  subst he
  generalize hE1 : ((((E.set 4 (.sh (.str d))).set 5 (.sh o)).set 6 (.sh w)).set 7 (.sh t)).set 8 (.sh (.lst ds)) = E1
  have l1 : E1.length = 13 := by rw [← hE1]; simp [l]
  have g1 : E1[1]? = some (.sh .src) := by rw [← hE1]; simp only [List.getElem?_set_ne (show 8 ≠ 1 by decide), List.getElem?_set_ne (show 7 ≠ 1 by decide), List.getElem?_set_ne (show 6 ≠ 1 by decide), List.getElem?_set_ne (show 5 ≠ 1 by decide), List.getElem?_set_ne (show 4 ≠ 1 by decide)]; exact h1
  have g2 : E1[2]? = some (.sh (.lst [.str a, .str b, .str c, .str d])) := by rw [← hE1]; simp only [List.getElem?_set_ne (show 8 ≠ 2 by decide), List.getElem?_set_ne (show 7 ≠ 2 by decide), List.getElem?_set_ne (show 6 ≠ 2 by decide), List.getElem?_set_ne (show 5 ≠ 2 by decide), List.getElem?_set_ne (show 4 ≠ 2 by decide)]; exact h2
  have g4 : E1[4]? = some (.sh (.str d)) := by rw [← hE1]; simp only [List.getElem?_set_ne (show 8 ≠ 4 by decide), List.getElem?_set_ne (show 7 ≠ 4 by decide), List.getElem?_set_ne (show 6 ≠ 4 by decide), List.getElem?_set_ne (show 5 ≠ 4 by decide)]; exact List.getElem?_set_self (by omega)
  have g5 : E1[5]? = some (.sh o) := by rw [← hE1]; simp only [List.getElem?_set_ne (show 8 ≠ 5 by decide), List.getElem?_set_ne (show 7 ≠ 5 by decide), List.getElem?_set_ne (show 6 ≠ 5 by decide)]; exact List.getElem?_set_self (by simp [l])
  have g6 : E1[6]? = some (.sh w) := by rw [← hE1]; simp only [List.getElem?_set_ne (show 8 ≠ 6 by decide), List.getElem?_set_ne (show 7 ≠ 6 by decide)]; exact List.getElem?_set_self (by simp [l])
  have g7 : E1[7]? = some (.sh t) := by rw [← hE1]; simp only [List.getElem?_set_ne (show 8 ≠ 7 by decide)]; exact List.getElem?_set_self (by simp [l])
  have g8 : E1[8]? = some (.sh (.lst ds)) := by rw [← hE1]; exact List.getElem?_set_self (by simp [l])
  refine turn_own (Cs := Cs) hF hS l1 g4 g5 g6 g7 g8 pd ld fun L m' hm' pL => ?_
  have p5 : P5 Cs (.str d) o w t (.lst L) := ⟨⟨rfl, fun z e => by cases e; exact Nat.le_trans hd (by decide)⟩, po, pw, pt, pL⟩
  generalize hE2 : E1.set 9 (.ow (.lst [.str d, o, w, t, .lst L])) = E2
  have l2 : E2.length = 13 := by rw [← hE2]; simp [l1]
  have k1 : E2[1]? = some (.sh .src) := by rw [← hE2, List.getElem?_set_ne (by decide)]; exact g1
  have k2 : E2[2]? = some (.sh (.lst [.str a, .str b, .str c, .str d])) := by rw [← hE2, List.getElem?_set_ne (by decide)]; exact g2
  have k9 : E2[9]? = some (.ow (.lst [.str d, o, w, t, .lst L])) := by rw [← hE2]; exact List.getElem?_set_self (by omega)
  have key : drawW [.src, .int 4] m' fun j m => (match ([j] : List T) with
      | [.int j] => if -(2 ^ 62) ≤ j ∧ j < 2 ^ 62 then forL (wgName 10) (sSeq (sAsg (wCal drawW (aCons (wVar 1) (aCons (wC (.int 5)) aNil)) []) (wgName 11)) (sLPut 9 (wVar 11) (wCal (wr_l_odd CF) (aCons (wVar 1) (aCons (wVar 11) aNil)) []))) ((List.range j.toNat).map fun i => .int (i : Nat)) E2 m { D with nx := fun E' m => (sFrz 9 (sIf (wVal (w2 fNe (wCal (trW CB CT (wr_Trigger___init__ Cs CB CF CS CT) (wr_Trigger_label CT)) (aCons (wVar 9) aNil) []) (wCal (wr_l_due Cs CF CS) (aCons (wVar 9) aNil) []))) (sRet (wC (.bl false))) sNil)) E' m D } else False
      | _ => False) := by
    refine draw_of (m := 4) (by omega) (by decide) (by decide) fun j hj => ?_
    show (if -(2 ^ 62) ≤ ((j : Nat) : Int) ∧ ((j : Nat) : Int) < 2 ^ 62 then _ else False)
    rw [if_pos ⟨by omega, by omega⟩]
    refine inner_loop (CF := CF) (CS := CS) hF hS (N2 := some (.sh (.lst [.str a, .str b, .str c, .str d]))) (n + 2500) (by omega) _ E2 _ _ _ _ _ _ p5 l2 k1 k2 k9 (by simp; omega) fun E' q0 q1 q2 q3 q4 n' h5 l' g1 g2 g9 hn' => ?_
    refine last_of' (Cs := Cs) h5 g9 ?_
    exact q _ _ (by rw [List.length_set]; exact l') (by rw [List.getElem?_set_ne (by decide)]; exact g1) (by rw [List.getElem?_set_ne (by decide)]; exact g2) (by omega)
  have e1 : ∀ kk : T → Nat → Prop, kk .src m' → wVar 1 E2 m' kk := fun kk hk => by unfold wVar; rw [k1]; exact hk
  exact e1 _ key
theorem law_holds (hF : CF ∈ Cs) (hS : CS ∈ Cs) : wb_law Cs CB CF CS CT (startL N_law) 0 { nx := fun _ _ => False, rt := fun t _ => t = .bl true } := by
  have loop : ∀ (a b c d : Str), Nm [a, b] → Nm [c] → d.length ≤ 8 → ∀ (is : List T) (E : En) (m : Nat), E.length = 13 → E[1]? = some (.sh .src) → E[2]? = some (.sh (.lst [.str a, .str b, .str c, .str d])) → m + 3001 * is.length ≤ 30000 →
      forL (wgName 3) (sSeq (sAsg (wCal wr_l_hook (aCons (wVar 1) (aCons (w2 fIxL (wVar 2) (wC (.int 3))) (aCons (wSlL (wVar 2) wNoPart (wPart (wC (.int 2)))) (aCons (wSlL (wVar 2) (wPart (wC (.int 2))) (wPart (wC (.int 3)))) aNil)))) []) (wgTup [4, 5, 6, 7, 8])) (sSeq (sOwn (wLst (aCons (wVar 4) (aCons (wVar 5) (aCons (wVar 6) (aCons (wVar 7) (aCons (wLc (iLst (wVar 8)) (wgName 12) bYes (wCal (wr_l_made_deed CF CS) (aCons (wVar 12) aNil) []) [12]) aNil)))))) 9) (sSeq (sFor (iRngT (aCons (wCal drawW (aCons (wVar 1) (aCons (wC (.int 4)) aNil)) []) aNil)) (wgName 10) (sSeq (sAsg (wCal drawW (aCons (wVar 1) (aCons (wC (.int 5)) aNil)) []) (wgName 11)) (sLPut 9 (wVar 11) (wCal (wr_l_odd CF) (aCons (wVar 1) (aCons (wVar 11) aNil)) [])))) (sFrz 9 (sIf (wVal (w2 fNe (wCal (trW CB CT (wr_Trigger___init__ Cs CB CF CS CT) (wr_Trigger_label CT)) (aCons (wVar 9) aNil) []) (wCal (wr_l_due Cs CF CS) (aCons (wVar 9) aNil) []))) (sRet (wC (.bl false))) sNil))))) is E m { nx := fun E m => (sRet (wC (.bl true))) E m { nx := fun _ _ => False, rt := fun t _ => t = .bl true }, rt := fun t _ => t = .bl true } := by
    intro a b c d hx hc hd is
    induction is with
    | nil => exact fun E m _ _ _ _ => rfl
    | cons i is ih =>
      intro E m l h1 h2 hm
      rw [List.length_cons] at hm
      have key : (sSeq (sAsg (wCal wr_l_hook (aCons (wVar 1) (aCons (w2 fIxL (wVar 2) (wC (.int 3))) (aCons (wSlL (wVar 2) wNoPart (wPart (wC (.int 2)))) (aCons (wSlL (wVar 2) (wPart (wC (.int 2))) (wPart (wC (.int 3)))) aNil)))) []) (wgTup [4, 5, 6, 7, 8])) (sSeq (sOwn (wLst (aCons (wVar 4) (aCons (wVar 5) (aCons (wVar 6) (aCons (wVar 7) (aCons (wLc (iLst (wVar 8)) (wgName 12) bYes (wCal (wr_l_made_deed CF CS) (aCons (wVar 12) aNil) []) [12]) aNil)))))) 9) (sSeq (sFor (iRngT (aCons (wCal drawW (aCons (wVar 1) (aCons (wC (.int 4)) aNil)) []) aNil)) (wgName 10) (sSeq (sAsg (wCal drawW (aCons (wVar 1) (aCons (wC (.int 5)) aNil)) []) (wgName 11)) (sLPut 9 (wVar 11) (wCal (wr_l_odd CF) (aCons (wVar 1) (aCons (wVar 11) aNil)) [])))) (sFrz 9 (sIf (wVal (w2 fNe (wCal (trW CB CT (wr_Trigger___init__ Cs CB CF CS CT) (wr_Trigger_label CT)) (aCons (wVar 9) aNil) []) (wCal (wr_l_due Cs CF CS) (aCons (wVar 9) aNil) []))) (sRet (wC (.bl false))) sNil))))) (E.set 3 (.sh i)) m { ({ nx := fun E m => (sRet (wC (.bl true))) E m { nx := fun _ _ => False, rt := fun t _ => t = .bl true }, rt := fun t _ => t = .bl true } : EndT) with nx := fun E2 m2 => forL (wgName 3) (sSeq (sAsg (wCal wr_l_hook (aCons (wVar 1) (aCons (w2 fIxL (wVar 2) (wC (.int 3))) (aCons (wSlL (wVar 2) wNoPart (wPart (wC (.int 2)))) (aCons (wSlL (wVar 2) (wPart (wC (.int 2))) (wPart (wC (.int 3)))) aNil)))) []) (wgTup [4, 5, 6, 7, 8])) (sSeq (sOwn (wLst (aCons (wVar 4) (aCons (wVar 5) (aCons (wVar 6) (aCons (wVar 7) (aCons (wLc (iLst (wVar 8)) (wgName 12) bYes (wCal (wr_l_made_deed CF CS) (aCons (wVar 12) aNil) []) [12]) aNil)))))) 9) (sSeq (sFor (iRngT (aCons (wCal drawW (aCons (wVar 1) (aCons (wC (.int 4)) aNil)) []) aNil)) (wgName 10) (sSeq (sAsg (wCal drawW (aCons (wVar 1) (aCons (wC (.int 5)) aNil)) []) (wgName 11)) (sLPut 9 (wVar 11) (wCal (wr_l_odd CF) (aCons (wVar 1) (aCons (wVar 11) aNil)) [])))) (sFrz 9 (sIf (wVal (w2 fNe (wCal (trW CB CT (wr_Trigger___init__ Cs CB CF CS CT) (wr_Trigger_label CT)) (aCons (wVar 9) aNil) []) (wCal (wr_l_due Cs CF CS) (aCons (wVar 9) aNil) []))) (sRet (wC (.bl false))) sNil))))) is E2 m2 { nx := fun E m => (sRet (wC (.bl true))) E m { nx := fun _ _ => False, rt := fun t _ => t = .bl true }, rt := fun t _ => t = .bl true }, ct := fun E2 m2 => forL (wgName 3) (sSeq (sAsg (wCal wr_l_hook (aCons (wVar 1) (aCons (w2 fIxL (wVar 2) (wC (.int 3))) (aCons (wSlL (wVar 2) wNoPart (wPart (wC (.int 2)))) (aCons (wSlL (wVar 2) (wPart (wC (.int 2))) (wPart (wC (.int 3)))) aNil)))) []) (wgTup [4, 5, 6, 7, 8])) (sSeq (sOwn (wLst (aCons (wVar 4) (aCons (wVar 5) (aCons (wVar 6) (aCons (wVar 7) (aCons (wLc (iLst (wVar 8)) (wgName 12) bYes (wCal (wr_l_made_deed CF CS) (aCons (wVar 12) aNil) []) [12]) aNil)))))) 9) (sSeq (sFor (iRngT (aCons (wCal drawW (aCons (wVar 1) (aCons (wC (.int 4)) aNil)) []) aNil)) (wgName 10) (sSeq (sAsg (wCal drawW (aCons (wVar 1) (aCons (wC (.int 5)) aNil)) []) (wgName 11)) (sLPut 9 (wVar 11) (wCal (wr_l_odd CF) (aCons (wVar 1) (aCons (wVar 11) aNil)) [])))) (sFrz 9 (sIf (wVal (w2 fNe (wCal (trW CB CT (wr_Trigger___init__ Cs CB CF CS CT) (wr_Trigger_label CT)) (aCons (wVar 9) aNil) []) (wCal (wr_l_due Cs CF CS) (aCons (wVar 9) aNil) []))) (sRet (wC (.bl false))) sNil))))) is E2 m2 { nx := fun E m => (sRet (wC (.bl true))) E m { nx := fun _ _ => False, rt := fun t _ => t = .bl true }, rt := fun t _ => t = .bl true }, bk := fun E m => (sRet (wC (.bl true))) E m { nx := fun _ _ => False, rt := fun t _ => t = .bl true } } := by
        refine turn_of (Cs := Cs) hF hS hx hc hd (by rw [List.length_set]; exact l) (by rw [List.getElem?_set_ne (by decide)]; exact h1) (by rw [List.getElem?_set_ne (by decide)]; exact h2) (by omega) fun E' n' l' g1 g2 hn' => ?_
        exact ih E' n' l' g1 g2 (by omega)
      exact key
  have key : namesW [.src, .int 4] 0 fun t m => forL (wgName 3) (sSeq (sAsg (wCal wr_l_hook (aCons (wVar 1) (aCons (w2 fIxL (wVar 2) (wC (.int 3))) (aCons (wSlL (wVar 2) wNoPart (wPart (wC (.int 2)))) (aCons (wSlL (wVar 2) (wPart (wC (.int 2))) (wPart (wC (.int 3)))) aNil)))) []) (wgTup [4, 5, 6, 7, 8])) (sSeq (sOwn (wLst (aCons (wVar 4) (aCons (wVar 5) (aCons (wVar 6) (aCons (wVar 7) (aCons (wLc (iLst (wVar 8)) (wgName 12) bYes (wCal (wr_l_made_deed CF CS) (aCons (wVar 12) aNil) []) [12]) aNil)))))) 9) (sSeq (sFor (iRngT (aCons (wCal drawW (aCons (wVar 1) (aCons (wC (.int 4)) aNil)) []) aNil)) (wgName 10) (sSeq (sAsg (wCal drawW (aCons (wVar 1) (aCons (wC (.int 5)) aNil)) []) (wgName 11)) (sLPut 9 (wVar 11) (wCal (wr_l_odd CF) (aCons (wVar 1) (aCons (wVar 11) aNil)) [])))) (sFrz 9 (sIf (wVal (w2 fNe (wCal (trW CB CT (wr_Trigger___init__ Cs CB CF CS CT) (wr_Trigger_label CT)) (aCons (wVar 9) aNil) []) (wCal (wr_l_due Cs CF CS) (aCons (wVar 9) aNil) []))) (sRet (wC (.bl false))) sNil))))) ((List.range 4).map fun i => .int (i : Nat)) ((startL N_law).set 2 (.sh t)) m { nx := fun E m => (sRet (wC (.bl true))) E m { nx := fun _ _ => False, rt := fun t _ => t = .bl true }, rt := fun t _ => t = .bl true } := by
    refine ⟨4, rfl, by omega, by omega, fun xs lx nd dr => ?_⟩
    match xs, lx, nd, dr with
    | [a, b, c, d], _, nd, dr =>
      have na : ∀ x ∈ [a, b, c, d], nameB x = true := fun x hx => (dr x hx).1
      have nd2 : [a, b].Nodup := nd.sublist (by simp)
      refine loop a b c d ⟨fun x hx => na x (by simp only [List.mem_cons, List.not_mem_nil, or_false] at hx; rcases hx with rfl | rfl <;> simp), nd2⟩ ⟨fun x hx => na x (by rw [List.mem_singleton.mp hx]; simp), by simp⟩ (nameB_len (na d (by simp))).2 _ _ _ rfl rfl rfl (by decide)
  exact key
end
end Lw
/-! ## Oty -/
set_option Elab.async false
set_option linter.all false
set_option maxRecDepth 100000
set_option maxHeartbeats 2000000
namespace Lw
open PySem PySem.Spec PyProof.Rows L2 Sl
theorem mroB_at {K : PySem.W.Frag} {C : Addr} (h : mroB K C = true) : (∃ cd, PySem.W.clsIn K C = some cd ∧ cd.mro = [Value.ref C, .type "object"]) ∧ PySem.W.typeIn K (.ref C) = some (.type "type") := by
  obtain ⟨h1, h2⟩ := Bool.and_eq_true_iff.mp h
  refine ⟨?_, of_decide_eq_true h2⟩
  cases e : PySem.W.clsIn K C with
  | none => rw [e] at h1; cases h1
  | some cd => rw [e] at h1; exact ⟨cd, rfl, of_decide_eq_true h1⟩
theorem mro_in {K : PySem.W.Frag} {C : Addr} (h : mroB K C = true) (v : Value) : PySem.W.mroIn K C v = some ([Value.ref C, .type "object"].contains v) := by
  obtain ⟨⟨cd, e, m⟩, _⟩ := mroB_at h
  unfold PySem.W.mroIn
  rw [e, Option.bind_some, m]
  rfl
theorem oty_of {K : PySem.W.Frag} {Cs : List Addr} (cl : ∀ C ∈ Cs, Cls K C) (ca : ∀ C ∈ Cs, PySem.W.findIn K (.ref C) "__class__" = some (some (.builtin "object.__class__")))
    (sg : PySem.W.specialIn K (.builtin "object.__class__") "__get__" = some (some (.builtin "getset_descriptor.__get__"))) (tk : PySem.W.takesIn K (.builtin "object.__class__") = some true) (m : ∀ C ∈ Cs, mroB K C = true) : Tr.OwnTy K Cs := by
  have one : ∀ C ∈ Cs, ∀ t : Value, PySem.W.kitCls K t (.ref C) = PySem.W.subIn K t (.ref C) := fun C h t => by
    obtain ⟨⟨cd, e, _⟩, ty⟩ := mroB_at (m C h)
    show (if ((PySem.W.clsIn K C).isSome && PySem.W.typeIn K (.ref C) == some (.type "type")) = true then PySem.W.subIn K t (.ref C) else none) = _
    rw [e, ty]
    rfl
  refine ⟨cl, ca, sg, tk, fun C h => by rw [mro_in (m C h)]; rfl, fun C h s hs => ?_, fun C h s hs => ?_, fun C h D h' => ?_⟩
  · have k : PySem.W.kitMeta s = true := by
      simp only [List.mem_cons, List.not_mem_nil, or_false] at hs
      rcases hs with rfl | rfl | rfl | rfl | rfl | rfl <;> decide +kernel
    show (if (Value.ref C == Value.type s) = true then some true else (if PySem.W.kitMeta s = true then PySem.W.mroIn K C (.type s) else none)) = _
    rw [if_neg (by intro e; cases e), if_pos k, mro_in (m C h)]
    simp only [List.mem_cons, List.not_mem_nil, or_false] at hs
    rcases hs with rfl | rfl | rfl | rfl | rfl | rfl <;> rfl
  · show (if (Value.type s == Value.ref C) = true then some true else PySem.W.kitCls K (.type s) (.ref C)) = _
    rw [if_neg (by intro e; cases e), one C h]
    simp only [List.mem_cons, List.not_mem_nil, or_false] at hs
    rcases hs with rfl | rfl | rfl | rfl | rfl | rfl | rfl <;> rfl
  · show (if (Value.ref C == Value.ref D) = true then some true else PySem.W.kitCls K (.ref C) (.ref D)) = _
    by_cases e : C = D
    · subst e
      rw [if_pos (by simp), decide_eq_true rfl]
    · rw [if_neg (by simpa using e), one D h']
      show PySem.W.mroIn K C (.ref D) = _
      rw [mro_in (m C h), decide_eq_false e]
      congr 1
      simp [Ne.symm e]
end Lw
/-! ## LwZ -/
set_option Elab.async false
set_option linter.all false
set_option maxRecDepth 100000
set_option maxHeartbeats 4000000
namespace Lw
open PySem PySem.Spec PyProof.Rows L2 _root_.Sl Tr
abbrev sp_law (K : PySem.W.Frag) : Sp := Tr.sp_law K
structure Top10 (P : Program) (w : World) (K : PySem.W.Frag) (mg : Str → Option Value) (base : Heap) (Cs : List Addr) (C_BadTrigger C_Form C_Statement C_Trigger : Addr) : Prop where
  c__law_source : Cal P w K mg base 1 "_law_source" [] (sp_source K)
  c__law_names : Cal P w K mg base 3 "_law_names" [] (spT K namesW)
  c__law_hook : Cal P w K mg base 6 "_law_hook" [] (spT K wr_l_hook)
  c__law_made_deed : Cal P w K mg base 7 "_law_made_deed" [] (spT K (wr_l_made_deed C_Form C_Statement))
  c__law_draw : Cal P w K mg base 1 "_law_draw" [] (spT K drawW)
  c__law_odd : Cal P w K mg base 7 "_law_odd" [] (spT K (wr_l_odd C_Form))
  c__law_tried : Cal P w K mg base 9 "_law_tried" [] (spT K (trW C_BadTrigger C_Trigger (wr_Trigger___init__ Cs C_BadTrigger C_Form C_Statement C_Trigger) (wr_Trigger_label C_Trigger)))
  c__law_due : Cal P w K mg base 4 "_law_due" [] (spT K (wr_l_due Cs C_Form C_Statement))
  m_range : mg "range" = none
  hF : C_Form ∈ Cs
  hS : C_Statement ∈ Cs
theorem ok_law {P : Program} {w : World} {K : PySem.W.Frag} {mg : Str → Option Value} {base : Heap} {f : Addr} {fd : FuncData} {Cs : List Addr} {CB CF CS CT : Addr} (F : FnP K "law" s_law [] f fd) (T : Top10 P w K mg base Cs CB CF CS CT) : FnOk P w K mg base CX0 10 f fd ["_law_script"] (sp_law K) :=
  ot_law F T.c__law_source T.c__law_names T.c__law_hook T.c__law_made_deed T.c__law_draw T.c__law_odd T.c__law_tried T.c__law_due T.m_range (law_holds T.hF T.hS)
end Lw
/-! ## Kj -/
set_option Elab.async false
set_option linter.all false
set_option maxRecDepth 100000
set_option maxHeartbeats 4000000
namespace Lw
open PySem PySem.Spec PyProof.Rows L2 Sl
section
variable {P : Program} {w : World} {K : PySem.W.Frag} {base h : Heap} {mg : Str → Option Value}
theorem errF_of {x fld : Str} {fd : FuncData} (g : mg x = some (.ref (He.ga K x))) (b : errB x fld K = true)
    (O : FnOk P w K mg base CX0 3 (He.ma K (He.ga K x) "__init__") fd ["self", fld] (sp_init K fld)) (hb : Binds K fd ["self", fld] []) : ErrF P w K mg base x fld (He.ga K x) := by
  obtain ⟨b0, b4⟩ := He.ba b
  obtain ⟨b1, b⟩ := He.ba b0
  obtain ⟨b2, b3⟩ := He.ba b
  obtain ⟨i1, i2⟩ := iniB_ok b3
  exact ⟨g, excB_ok b1, exrB_ok b2, He.eqO_ok b4, _, fd, i1, i2, O, hb⟩
theorem ok_BadTrigger {f : Addr} {fd : FuncData} {La : Addr} (F : FnM K "BadTrigger.__init__" s_BadTrigger___init__ f fd) (L : LotC P w K mg base La) : FnOk P w K mg base CX0 3 f fd ["self", "place"] (sp_init K "place") := by
  obtain ⟨fL, fdL, kv, hk, FL, bL⟩ := L.ex
  refine F.ok sc_BadTrigger___init__ (fun vs H Q E h => ?_) (fun cdv A outer s H vs Q E hr h => ?_)
  · obtain ⟨a, C, v, rfl, _⟩ := h
    rfl
  · obtain ⟨a, C, v, rfl, T, nf, ha, hv, k⟩ := h
    refine ⟨_, PSs.nox (pss_cons (ps_expr (pe_clsfn (by rfl) L.g L.rd kv hk FL hr bL .nil pass0 (pa_cons (pv 0) (pa_cons (pv 1) pa_nil)))) (pss_one (ps_ost (pv 0) (pv 1)))), ?_⟩
    exact ⟨_, rfl, _, rfl, a, C, v, rfl, T, ha, hv, _, rfl, _, rfl, a, C, rfl, T, nf, .inl ⟨ha, fun dx hd ne => k dx hd ne⟩⟩
theorem facts_top (X : K.In h) (G : h.Ns mainGlobals mg) (ct : SaysT fa fn pr ex K) : Top10 P w K mg base (Cs3 K) (He.ga K "BadTrigger") (He.ga K "Form") (He.ga K "Statement") (He.ga K "Trigger") := by
  have c := ct.s
  have d := c.d
  have g := fun (i : Nat) (x : Str) (e : fa[i]? = some (.glo x)) => He.glo_ok X G (d.fact i e)
  have fr := fun (i : Nat) (x : Str) (e : fa[i]? = some (.free x)) => He.free_ok X G (d.fact i e)
  have g_shown := g 0 "shown" rfl
  have g_is_name := g 1 "is_name" rfl
  have g_is_integer := g 2 "is_integer" rfl
  have g_is_list := g 3 "is_list" rfl
  have g_is_names := g 4 "is_names" rfl
  have g_are_different := g 5 "are_different" rfl
  have g_pairs_of := g 6 "pairs_of" rfl
  have g_is_of_lot := g 7 "is_of_lot" rfl
  have g_name_in := g 8 "name_in" rfl
  have g_is_word := g 9 "is_word" rfl
  have g_checked_parts := g 10 "checked_parts" rfl
  have g_is_turn := g 11 "is_turn" rfl
  have g_is_brought := g 12 "is_brought" rfl
  have g_checked_turns := g 13 "checked_turns" rfl
  have g_checked_brings := g 14 "checked_brings" rfl
  have g_is_bound := g 15 "is_bound" rfl
  have g_are_words := g 16 "are_words" rfl
  have g_is_test := g 17 "is_test" rfl
  have g_is_verb := g 18 "is_verb" rfl
  have g_is_deed := g 19 "is_deed" rfl
  have g_kept_test := g 20 "kept_test" rfl
  have g_kept_deed := g 21 "kept_deed" rfl
  have g_are_tests := g 22 "are_tests" rfl
  have g_are_deeds := g 23 "are_deeds" rfl
  have g__law_source := g 24 "_law_source" rfl
  have g__law_draw := g 25 "_law_draw" rfl
  have g__law_pick := g 26 "_law_pick" rfl
  have g__law_order := g 27 "_law_order" rfl
  have g__law_subset := g 28 "_law_subset" rfl
  have g__law_name := g 29 "_law_name" rfl
  have g__law_names := g 30 "_law_names" rfl
  have g__law_some := g 31 "_law_some" rfl
  have g__law_plan := g 32 "_law_plan" rfl
  have g__law_lots := g 33 "_law_lots" rfl
  have g__law_sum := g 34 "_law_sum" rfl
  have g__law_deed := g 35 "_law_deed" rfl
  have g__law_hook := g 36 "_law_hook" rfl
  have g__law_made_deed := g 37 "_law_made_deed" rfl
  have g__law_tried := g 38 "_law_tried" rfl
  have g__law_is_name := g 39 "_law_is_name" rfl
  have g__law_are_names := g 40 "_law_are_names" rfl
  have g__law_is_word := g 41 "_law_is_word" rfl
  have g__law_is_bound := g 42 "_law_is_bound" rfl
  have g__law_is_test := g 43 "_law_is_test" rfl
  have g__law_is_deed := g 44 "_law_is_deed" rfl
  have g__law_due := g 45 "_law_due" rfl
  have g__law_odd := g 46 "_law_odd" rfl
  have g_law := g 47 "law" rfl
  have g_LotError := g 48 "LotError" rfl
  have g_BadTrigger := g 49 "BadTrigger" rfl
  have g_Form := g 50 "Form" rfl
  have g_Statement := g 51 "Statement" rfl
  have g_Trigger := g 52 "Trigger" rfl
  have m_isinstance := fr 53 "isinstance" rfl
  have m_str := fr 54 "str" rfl
  have m_int := fr 55 "int" rfl
  have m_bool := fr 56 "bool" rfl
  have m_list := fr 57 "list" rfl
  have m_tuple := fr 58 "tuple" rfl
  have m_dict := fr 59 "dict" rfl
  have m_len := fr 60 "len" rfl
  have m_all := fr 61 "all" rfl
  have m_range := fr 62 "range" rfl
  have m_sorted := fr 63 "sorted" rfl
  have m_set := fr 64 "set" rfl
  have m_enumerate := fr 65 "enumerate" rfl
  have m_zip := fr 66 "zip" rfl
  have m_ValueError := fr 67 "ValueError" rfl
  obtain ⟨t_MOST_BITS, k_MOST_BITS⟩ := He.int_ok X G (d.fact 68 (f := .int "MOST_BITS" 1000) rfl)
  obtain ⟨t_LETTERS, k_LETTERS⟩ := He.str_ok X G (d.fact 69 (f := .str "LETTERS" "abcdefghijklmnopqrstuvwxyz") rfl)
  obtain ⟨t_MOST_LETTERS, k_MOST_LETTERS⟩ := He.int_ok X G (d.fact 70 (f := .int "MOST_LETTERS" 8) rfl)
  obtain ⟨t_OLD, k_OLD⟩ := He.str_ok X G (d.fact 71 (f := .str "OLD" "old.") rfl)
  obtain ⟨t_NEW, k_NEW⟩ := He.str_ok X G (d.fact 72 (f := .str "NEW" "new.") rfl)
  obtain ⟨t_BETWEEN, k_BETWEEN⟩ := He.str_ok X G (d.fact 73 (f := .str "BETWEEN" " + ") rfl)
  obtain ⟨t_MOST_TESTS, k_MOST_TESTS⟩ := He.int_ok X G (d.fact 74 (f := .int "MOST_TESTS" 3) rfl)
  obtain ⟨t_MOST_DEEDS, k_MOST_DEEDS⟩ := He.int_ok X G (d.fact 75 (f := .int "MOST_DEEDS" 4) rfl)
  obtain ⟨t_GREATEST_BOUND, k_GREATEST_BOUND⟩ := He.int_ok X G (d.fact 76 (f := .int "GREATEST_BOUND" 3) rfl)
  obtain ⟨t_MOST_KINDS, k_MOST_KINDS⟩ := He.int_ok X G (d.fact 77 (f := .int "MOST_KINDS" 3) rfl)
  obtain ⟨t_MOST_BROUGHT, k_MOST_BROUGHT⟩ := He.int_ok X G (d.fact 78 (f := .int "MOST_BROUGHT" 9) rfl)
  obtain ⟨t_NOTHING, k_NOTHING⟩ := He.str_ok X G (d.fact 79 (f := .str "NOTHING" "nothing") rfl)
  obtain ⟨t_ADD, k_ADD⟩ := He.str_ok X G (d.fact 80 (f := .str "ADD" "add") rfl)
  obtain ⟨t_SET, k_SET⟩ := He.str_ok X G (d.fact 81 (f := .str "SET" "set") rfl)
  obtain ⟨t_REFUSE, k_REFUSE⟩ := He.str_ok X G (d.fact 82 (f := .str "REFUSE" "refuse") rfl)
  have cls_Form := He.cls_ok (d.fact 83 (f := .cls "Form") rfl)
  have mkr_Form := He.mkr_ok (d.fact 84 (f := .mkr "Form") rfl)
  have noat_Form__number := He.noat_ok (d.fact 85 (f := .noat "Form" "_number") rfl)
  have noat_Form__parts := He.noat_ok (d.fact 86 (f := .noat "Form" "_parts") rfl)
  have cls_Statement := He.cls_ok (d.fact 87 (f := .cls "Statement") rfl)
  have mkr_Statement := He.mkr_ok (d.fact 88 (f := .mkr "Statement") rfl)
  have noat_Statement__brings := He.noat_ok (d.fact 89 (f := .noat "Statement" "_brings") rfl)
  have noat_Statement__turns := He.noat_ok (d.fact 90 (f := .noat "Statement" "_turns") rfl)
  have cls_Trigger := He.cls_ok (d.fact 91 (f := .cls "Trigger") rfl)
  have mkr_Trigger := He.mkr_ok (d.fact 92 (f := .mkr "Trigger") rfl)
  have noat_Trigger__deeds := He.noat_ok (d.fact 93 (f := .noat "Trigger" "_deeds") rfl)
  have noat_Trigger__label := He.noat_ok (d.fact 94 (f := .noat "Trigger" "_label") rfl)
  have noat_Trigger__news := He.noat_ok (d.fact 95 (f := .noat "Trigger" "_news") rfl)
  have noat_Trigger__olds := He.noat_ok (d.fact 96 (f := .noat "Trigger" "_olds") rfl)
  have noat_Trigger__tests := He.noat_ok (d.fact 97 (f := .noat "Trigger" "_tests") rfl)
  obtain ⟨fd_shown, F_shown⟩ := d.def_ 0 (d := dF "shown" s_shown) rfl
  obtain ⟨fd_is_name, F_is_name⟩ := d.def_ 1 (d := dF "is_name" s_is_name) rfl
  obtain ⟨fd_is_integer, F_is_integer⟩ := d.def_ 2 (d := dF "is_integer" s_is_integer) rfl
  obtain ⟨fd_is_list, F_is_list⟩ := d.def_ 3 (d := dF "is_list" s_is_list) rfl
  obtain ⟨fd_is_names, F_is_names⟩ := d.def_ 4 (d := dF "is_names" s_is_names) rfl
  obtain ⟨fd_are_different, F_are_different⟩ := d.def_ 5 (d := dF "are_different" s_are_different) rfl
  obtain ⟨fd_pairs_of, F_pairs_of⟩ := d.def_ 6 (d := dF "pairs_of" s_pairs_of) rfl
  obtain ⟨fd_is_of_lot, F_is_of_lot⟩ := d.def_ 7 (d := dF "is_of_lot" s_is_of_lot) rfl
  obtain ⟨fd_name_in, F_name_in⟩ := d.def_ 8 (d := dF "name_in" s_name_in) rfl
  obtain ⟨fd_is_word, F_is_word⟩ := d.def_ 9 (d := dF "is_word" s_is_word) rfl
  obtain ⟨fd_checked_parts, F_checked_parts⟩ := d.def_ 10 (d := dF "checked_parts" s_checked_parts) rfl
  obtain ⟨fd_is_turn, F_is_turn⟩ := d.def_ 11 (d := dF "is_turn" s_is_turn) rfl
  obtain ⟨fd_is_brought, F_is_brought⟩ := d.def_ 12 (d := dF "is_brought" s_is_brought) rfl
  obtain ⟨fd_checked_turns, F_checked_turns⟩ := d.def_ 13 (d := dF "checked_turns" s_checked_turns) rfl
  obtain ⟨fd_checked_brings, F_checked_brings⟩ := d.def_ 14 (d := dF "checked_brings" s_checked_brings) rfl
  obtain ⟨fd_is_bound, F_is_bound⟩ := d.def_ 15 (d := dF "is_bound" s_is_bound) rfl
  obtain ⟨fd_are_words, F_are_words⟩ := d.def_ 16 (d := dF "are_words" s_are_words) rfl
  obtain ⟨fd_is_test, F_is_test⟩ := d.def_ 17 (d := dF "is_test" s_is_test) rfl
  obtain ⟨fd_is_verb, F_is_verb⟩ := d.def_ 18 (d := dF "is_verb" s_is_verb) rfl
  obtain ⟨fd_is_deed, F_is_deed⟩ := d.def_ 19 (d := dF "is_deed" s_is_deed) rfl
  obtain ⟨fd_kept_test, F_kept_test⟩ := d.def_ 20 (d := dF "kept_test" s_kept_test) rfl
  obtain ⟨fd_kept_deed, F_kept_deed⟩ := d.def_ 21 (d := dF "kept_deed" s_kept_deed) rfl
  obtain ⟨fd_are_tests, F_are_tests⟩ := d.def_ 22 (d := dF "are_tests" s_are_tests) rfl
  obtain ⟨fd_are_deeds, F_are_deeds⟩ := d.def_ 23 (d := dF "are_deeds" s_are_deeds) rfl
  obtain ⟨fd__law_source, F__law_source⟩ := d.def_ 24 (d := dF "_law_source" s_l_source) rfl
  obtain ⟨fd__law_draw, F__law_draw⟩ := d.def_ 25 (d := dF "_law_draw" s_l_draw) rfl
  obtain ⟨fd__law_pick, F__law_pick⟩ := d.def_ 26 (d := dF "_law_pick" s_l_pick) rfl
  obtain ⟨fd__law_order, F__law_order⟩ := d.def_ 27 (d := dF "_law_order" s_l_order) rfl
  obtain ⟨fd__law_subset, F__law_subset⟩ := d.def_ 28 (d := dF "_law_subset" s_l_subset) rfl
  obtain ⟨fd__law_name, F__law_name⟩ := d.def_ 29 (d := dF "_law_name" s_l_name) rfl
  obtain ⟨fd__law_names, F__law_names⟩ := d.def_ 30 (d := dF "_law_names" s_l_names) rfl
  obtain ⟨fd__law_some, F__law_some⟩ := d.def_ 31 (d := dF "_law_some" s_l_some) rfl
  obtain ⟨fd__law_plan, F__law_plan⟩ := d.def_ 32 (d := dF "_law_plan" s_l_plan) rfl
  obtain ⟨fd__law_lots, F__law_lots⟩ := d.def_ 33 (d := dF "_law_lots" s_l_lots) rfl
  obtain ⟨fd__law_sum, F__law_sum⟩ := d.def_ 34 (d := dF "_law_sum" s_l_sum) rfl
  obtain ⟨fd__law_deed, F__law_deed⟩ := d.def_ 35 (d := dF "_law_deed" s_l_deed) rfl
  obtain ⟨fd__law_hook, F__law_hook⟩ := d.def_ 36 (d := dF "_law_hook" s_l_hook) rfl
  obtain ⟨fd__law_made_deed, F__law_made_deed⟩ := d.def_ 37 (d := dF "_law_made_deed" s_l_made_deed) rfl
  obtain ⟨fd__law_tried, F__law_tried⟩ := d.def_ 38 (d := dF "_law_tried" s_l_tried) rfl
  obtain ⟨fd__law_is_name, F__law_is_name⟩ := d.def_ 39 (d := dF "_law_is_name" s_l_is_name) rfl
  obtain ⟨fd__law_are_names, F__law_are_names⟩ := d.def_ 40 (d := dF "_law_are_names" s_l_are_names) rfl
  obtain ⟨fd__law_is_word, F__law_is_word⟩ := d.def_ 41 (d := dF "_law_is_word" s_l_is_word) rfl
  obtain ⟨fd__law_is_bound, F__law_is_bound⟩ := d.def_ 42 (d := dF "_law_is_bound" s_l_is_bound) rfl
  obtain ⟨fd__law_is_test, F__law_is_test⟩ := d.def_ 43 (d := dF "_law_is_test" s_l_is_test) rfl
  obtain ⟨fd__law_is_deed, F__law_is_deed⟩ := d.def_ 44 (d := dF "_law_is_deed" s_l_is_deed) rfl
  obtain ⟨fd__law_due, F__law_due⟩ := d.def_ 45 (d := dF "_law_due" s_l_due) rfl
  obtain ⟨fd__law_odd, F__law_odd⟩ := d.def_ 46 (d := dF "_law_odd" s_l_odd) rfl
  obtain ⟨fd_law, F_law⟩ := d.def_ 47 (d := dF "law" s_law) rfl
  obtain ⟨fm_LotError___init__, M_LotError___init__⟩ := d.def_ 48 (d := dM "LotError" "__init__" "LotError.__init__" s_LotError___init__ []) rfl
  obtain ⟨fm_BadTrigger___init__, M_BadTrigger___init__⟩ := d.def_ 49 (d := dM "BadTrigger" "__init__" "BadTrigger.__init__" s_BadTrigger___init__ []) rfl
  obtain ⟨fm_Form___init__, M_Form___init__⟩ := d.def_ 50 (d := dM "Form" "__init__" "Form.__init__" s_Form___init__ [.int 0]) rfl
  obtain ⟨fm_Statement___init__, M_Statement___init__⟩ := d.def_ 51 (d := dM "Statement" "__init__" "Statement.__init__" s_Statement___init__ [.adr (He.dflAt ("Statement", some "__init__") 0)]) rfl
  obtain ⟨fm_Trigger___init__, M_Trigger___init__⟩ := d.def_ 52 (d := dM "Trigger" "__init__" "Trigger.__init__" s_Trigger___init__ []) rfl
  obtain ⟨fp_Trigger_label, P_Trigger_label⟩ := ct.p 0 (q := (gtr "Trigger" "label", dM "Trigger" "label" "Trigger.label" s_Trigger_label [])) rfl
  have c_shown : Cal P w K mg base 1 "shown" [] (sp_shown) := ⟨_, fd_shown, ["field"], [], g_shown, F_shown.kp, ok_shown F_shown m_isinstance m_str m_int k_MOST_BITS, F_shown.bindsN (fun _ _ _ _ _ _ us hl => match us, hl with | [_], _ => rfl), .nil⟩
  have c_is_name : Cal P w K mg base 1 "is_name" [] (sp_isname K) := ⟨_, fd_is_name, ["thing"], [], g_is_name, F_is_name.kp, ok_is_name F_is_name m_isinstance m_str m_len m_all k_LETTERS k_MOST_LETTERS, F_is_name.bindsN (fun _ _ _ _ _ _ us hl => match us, hl with | [_], _ => rfl), .nil⟩
  have c_is_integer : Cal P w K mg base 1 "is_integer" [] (sp_isint K) := ⟨_, fd_is_integer, ["thing"], [], g_is_integer, F_is_integer.kp, ok_is_integer F_is_integer m_isinstance m_int m_bool, F_is_integer.bindsN (fun _ _ _ _ _ _ us hl => match us, hl with | [_], _ => rfl), .nil⟩
  have c_is_list : Cal P w K mg base 1 "is_list" [] (sp_islist K) := ⟨_, fd_is_list, ["thing"], [], g_is_list, F_is_list.kp, ok_is_list F_is_list m_isinstance m_list m_tuple, F_is_list.bindsN (fun _ _ _ _ _ _ us hl => match us, hl with | [_], _ => rfl), .nil⟩
  have c_pairs_of : Cal P w K mg base 2 "pairs_of" [] (sp_pairs K) := ⟨_, fd_pairs_of, ["thing"], [], g_pairs_of, F_pairs_of.kp, ok_pairs F_pairs_of c_is_list m_isinstance m_dict m_list m_len, F_pairs_of.bindsN (fun _ _ _ _ _ _ us hl => match us, hl with | [_], _ => rfl), .nil⟩
  have c_is_turn : Cal P w K mg base 2 "is_turn" [] (sp_isturn) := ⟨_, fd_is_turn, ["thing"], [], g_is_turn, F_is_turn.kp, ok_is_turn F_is_turn c_is_list c_is_name m_len m_all k_MOST_KINDS, F_is_turn.bindsN (fun _ _ _ _ _ _ us hl => match us, hl with | [_], _ => rfl), .nil⟩
  have c_is_brought : Cal P w K mg base 2 "is_brought" [] (sp_isbrought) := ⟨_, fd_is_brought, ["thing"], [], g_is_brought, F_is_brought.kp, ok_is_brought F_is_brought c_is_integer k_MOST_BROUGHT, F_is_brought.bindsN (fun _ _ _ _ _ _ us hl => match us, hl with | [_], _ => rfl), .nil⟩
  have c_checked_turns : Cal P w K mg base 3 "checked_turns" [] (sp_cturns K) := ⟨_, fd_checked_turns, ["told"], [], g_checked_turns, F_checked_turns.kp, ok_cturns F_checked_turns c_pairs_of c_is_name c_is_turn m_tuple m_sorted, F_checked_turns.bindsN (fun _ _ _ _ _ _ us hl => match us, hl with | [_], _ => rfl), .nil⟩
  have c_checked_brings : Cal P w K mg base 3 "checked_brings" [] (sp_cbrings K) := ⟨_, fd_checked_brings, ["told"], [], g_checked_brings, F_checked_brings.kp, ok_cbrings F_checked_brings c_pairs_of c_is_name c_is_brought m_sorted, F_checked_brings.bindsN (fun _ _ _ _ _ _ us hl => match us, hl with | [_], _ => rfl), .nil⟩
  have c_is_of_lot : Cal P w K mg base 1 "is_of_lot" [] (sp_isoflot) := ⟨_, fd_is_of_lot, ["text"], [], g_is_of_lot, F_is_of_lot.kp, ok_is_of_lot F_is_of_lot k_OLD k_NEW, F_is_of_lot.bindsN (fun _ _ _ _ _ _ us hl => match us, hl with | [_], _ => rfl), .nil⟩
  have c_name_in : Cal P w K mg base 2 "name_in" [] (sp_namein) := ⟨_, fd_name_in, ["word"], [], g_name_in, F_name_in.kp, ok_name_in F_name_in c_is_of_lot m_len k_OLD, F_name_in.bindsN (fun _ _ _ _ _ _ us hl => match us, hl with | [_], _ => rfl), .nil⟩
  have c_is_word : Cal P w K mg base 3 "is_word" [] (sp_isword) := ⟨_, fd_is_word, ["thing"], [], g_is_word, F_is_word.kp, ok_is_word F_is_word c_name_in c_is_name m_isinstance m_str, F_is_word.bindsN (fun _ _ _ _ _ _ us hl => match us, hl with | [_], _ => rfl), .nil⟩
  have c_checked_parts : Cal P w K mg base 4 "checked_parts" [] (sp_cparts) := ⟨_, fd_checked_parts, ["told"], [], g_checked_parts, F_checked_parts.kp, ok_cparts F_checked_parts c_is_word c_is_integer m_isinstance m_dict m_sorted, F_checked_parts.bindsN (fun _ _ _ _ _ _ us hl => match us, hl with | [_], _ => rfl), .nil⟩
  have c__law_source : Cal P w K mg base 1 "_law_source" [] (sp_source K) := ⟨_, fd__law_source, ["_law_script"], [], g__law_source, F__law_source.kp, ok_source F__law_source m_int, F__law_source.bindsN (fun _ _ _ _ _ _ us hl => match us, hl with | [_], _ => rfl), .nil⟩
  have c__law_draw : Cal P w K mg base 1 "_law_draw" [] (sp_draw) := ⟨_, fd__law_draw, ["_law_source_here", "_law_many"], [], g__law_draw, F__law_draw.kp, ok_draw F__law_draw m_int, F__law_draw.bindsN (fun _ _ _ _ _ _ us hl => match us, hl with | [_, _], _ => rfl), .nil⟩
  have c__law_pick : Cal P w K mg base 2 "_law_pick" [] (sp_pick K) := ⟨_, fd__law_pick, ["_law_source_here", "_law_things"], [], g__law_pick, F__law_pick.kp, ok_pick F__law_pick c__law_draw m_len, F__law_pick.bindsN (fun _ _ _ _ _ _ us hl => match us, hl with | [_, _], _ => rfl), .nil⟩
  have c__law_order : Cal P w K mg base 2 "_law_order" [] (sp_order K) := ⟨_, fd__law_order, ["_law_source_here", "_law_many"], [], g__law_order, F__law_order.kp, ok_order F__law_order c__law_draw m_range m_list m_len, F__law_order.bindsN (fun _ _ _ _ _ _ us hl => match us, hl with | [_, _], _ => rfl), .nil⟩
  have c__law_subset : Cal P w K mg base 2 "_law_subset" [] (sp_subset K) := ⟨_, fd__law_subset, ["_law_source_here", "_law_row"], [], g__law_subset, F__law_subset.kp, ok_subset F__law_subset c__law_draw, F__law_subset.bindsN (fun _ _ _ _ _ _ us hl => match us, hl with | [_, _], _ => rfl), .nil⟩
  have c__law_name : Cal P w K mg base 2 "_law_name" [] (sp_name K) := ⟨_, fd__law_name, ["_law_source_here", "_law_taken"], [], g__law_name, F__law_name.kp, ok_name F__law_name c__law_draw m_range, F__law_name.bindsN (fun _ _ _ _ _ _ us hl => match us, hl with | [_, _], _ => rfl), .nil⟩
  have c__law_names : Cal P w K mg base 3 "_law_names" [] (sp_names K) := ⟨_, fd__law_names, ["_law_source_here", "_law_many"], [], g__law_names, F__law_names.kp, ok_names F__law_names c__law_name m_range, F__law_names.bindsN (fun _ _ _ _ _ _ us hl => match us, hl with | [_, _], _ => rfl), .nil⟩
  have c__law_some : Cal P w K mg base 3 "_law_some" [] (sp_some K) := ⟨_, fd__law_some, ["_law_source_here", "_law_things"], [], g__law_some, F__law_some.kp, ok_some F__law_some c__law_draw c__law_order m_len, F__law_some.bindsN (fun _ _ _ _ _ _ us hl => match us, hl with | [_, _], _ => rfl), .nil⟩
  have c__law_plan : Cal P w K mg base 4 "_law_plan" [] (sp_plan K) := ⟨_, fd__law_plan, ["_law_source_here", "_law_kinds"], [], g__law_plan, F__law_plan.kp, ok_plan F__law_plan c__law_draw c__law_pick c__law_subset c__law_some m_range, F__law_plan.bindsN (fun _ _ _ _ _ _ us hl => match us, hl with | [_, _], _ => rfl), .nil⟩
  have c__law_draw := Tr.Cal.imp c__law_draw (Tr.draw_imp (K := K))
  have c__law_pick := Tr.Cal.imp c__law_pick Tr.pick_imp
  have c__law_subset := Tr.Cal.imp c__law_subset Tr.subset_imp
  have c__law_names := Tr.Cal.imp c__law_names Tr.names_imp
  have c__law_some := Tr.Cal.imp c__law_some Tr.some_imp
  have c__law_plan := Tr.Cal.imp c__law_plan Tr.plan_imp
  obtain ⟨a1, a2⟩ := He.ba (show (_ && _) = true from c.x 0 (e := exG) rfl)
  obtain ⟨b1, b2⟩ := He.ba (show (_ && _) = true from c.x 1 (e := exC) rfl)
  obtain ⟨d1, d2⟩ := He.ba (show (_ && _) = true from c.x 2 (e := exM) rfl)
  have hF : He.ga K "Form" ∈ Cs3 K := List.mem_cons_self
  have hS : He.ga K "Statement" ∈ Cs3 K := List.mem_cons_of_mem _ List.mem_cons_self
  have both : ∀ {q : Addr → Prop}, q (He.ga K "Form") → q (He.ga K "Statement") → ∀ C ∈ Cs3 K, q C := fun {q} h1 h2 C h => by
    rcases List.mem_cons.mp h with rfl | h
    · exact h1
    · rw [List.mem_singleton.mp h]; exact h2
  have OT : Tr.OwnTy K (Cs3 K) := oty_of (both cls_Form cls_Statement) (both (He.eqO_ok b1) (He.eqO_ok b2)) (He.eqO_ok a1) (of_decide_eq_true a2) (both d1 d2)
  have caC := OT.ca
  have obC := OT.ob
  have i_Form := hF
  have i_Statement := hS
  have TS : StmC K (He.ga K "Statement") := ⟨cls_Statement, noat_Statement__turns, noat_Statement__brings, caC _ hS, He.eqO_ok a1, of_decide_eq_true a2, obC _ hS⟩
  have OS : FnOk P w K mg base CX0 4 _ fm_Statement___init__ ["self", "turns", "brings"] (sp_sinit K (He.ga K "Statement")) := ok_sinit M_Statement___init__ TS c_checked_turns c_checked_brings
  have c_Statement0 : MkF P w K mg base "Statement" (He.ga K "Statement") 4 [] (sp_sinit K (He.ga K "Statement")) := by
    obtain ⟨ds, hv, hb⟩ := M_Statement___init__.binds1 (ps := ["self", "turns", "brings"]) 3 1 (List.cons_ne_nil _ _) rfl (fun _ _ _ _ _ _ _ us its h1 h2 => match us, h1, its, h2 with | [_, _, _], _, [_], _ => ⟨_, rfl, rfl⟩)
    cases hv
    exact ⟨g_Statement, _, fm_Statement___init__, _, [], mkr_Statement, OS, hb, .nil⟩
  have TF : FormC K (He.ga K "Form") := ⟨cls_Form, noat_Form__parts, noat_Form__number, caC _ hF, He.eqO_ok a1, of_decide_eq_true a2, obC _ hF⟩
  have OF : FnOk P w K mg base CX0 5 _ fm_Form___init__ ["self", "parts", "number"] (sp_finit K (He.ga K "Form")) := ok_finit M_Form___init__ TF c_checked_parts c_is_integer
  have c_Form0 : MkF P w K mg base "Form" (He.ga K "Form") 5 [] (sp_finit K (He.ga K "Form")) := by
    obtain ⟨ds, hv, hb⟩ := M_Form___init__.binds1 (ps := ["self", "parts", "number"]) 3 1 (List.cons_ne_nil _ _) rfl (fun _ _ _ _ _ _ _ us its h1 h2 => match us, h1, its, h2 with | [_, _, _], _, [_], _ => ⟨_, rfl, rfl⟩)
    cases hv
    exact ⟨g_Form, _, fm_Form___init__, _, [], mkr_Form, OF, hb, .nil⟩
  have c_Form1 : MkF P w K mg base "Form" (He.ga K "Form") 5 [.int 0] (sp_finit K (He.ga K "Form")) := by
    obtain ⟨ds, hv, hb⟩ := M_Form___init__.binds1 (ps := ["self", "parts", "number"]) 2 0 (List.cons_ne_nil _ _) rfl (fun _ _ _ _ _ _ _ us its h1 h2 => match us, h1, its, h2 with | [_, _], _, [_], _ => ⟨_, rfl, rfl⟩)
    exact ⟨g_Form, _, fm_Form___init__, _, ds, mkr_Form, OF, hb, hv⟩
  have vV := clvB_ok (c.x 7 (e := fun K => clvB K (.type "ValueError") "__init__" (.builtin "ValueError.__init__")) rfl)
  have OL : FnOk P w K mg base CX0 2 _ fm_LotError___init__ ["self", "field"] (sp_lot K) := ok_lot M_LotError___init__ c_shown m_ValueError vV
  have bL : Binds K fm_LotError___init__ ["self", "field"] [] := M_LotError___init__.bindsN (fun _ _ _ _ _ _ us hl => match us, hl with | [_, _], _ => rfl)
  have lot : LotC P w K mg base (He.ga K "LotError") := ⟨g_LotError, crdB_ok (c.x 5 (e := fun K => crdB K (He.ga K "LotError")) rfl), _, fm_LotError___init__, clvB_ok (c.x 6 (e := fun K => clvB K (.ref (He.ga K "LotError")) "__init__" (.ref (He.ma K (He.ga K "LotError") "__init__"))) rfl), M_LotError___init__.kp, OL, bL⟩
  have r_BadTrigger : ErrF P w K mg base "BadTrigger" "place" (He.ga K "BadTrigger") := errF_of g_BadTrigger (c.x 4 (e := errB "BadTrigger" "place") rfl) (ok_BadTrigger M_BadTrigger___init__ lot) (M_BadTrigger___init__.bindsN (fun _ _ _ _ _ _ us hl => match us, hl with | [_, _], _ => rfl))
  have c_is_name : Cal P w K mg base 1 "is_name" [] (Tr.spT K (wr_is_name (Cs3 K))) := ⟨_, fd_is_name, ["thing"], [], g_is_name, F_is_name.kp, ot_is_name F_is_name k_LETTERS k_MOST_LETTERS m_all m_isinstance m_len m_str OT, F_is_name.bindsN (fun _ _ _ _ _ _ us hl => match us, hl with | [_], _ => rfl), .nil⟩
  have c_is_integer : Cal P w K mg base 1 "is_integer" [] (Tr.spT K (wr_is_integer (Cs3 K))) := ⟨_, fd_is_integer, ["thing"], [], g_is_integer, F_is_integer.kp, ot_is_integer F_is_integer m_bool m_int m_isinstance OT, F_is_integer.bindsN (fun _ _ _ _ _ _ us hl => match us, hl with | [_], _ => rfl), .nil⟩
  have c_is_list : Cal P w K mg base 1 "is_list" [] (Tr.spT K (wr_is_list (Cs3 K))) := ⟨_, fd_is_list, ["thing"], [], g_is_list, F_is_list.kp, ot_is_list F_is_list m_isinstance m_list m_tuple OT, F_is_list.bindsN (fun _ _ _ _ _ _ us hl => match us, hl with | [_], _ => rfl), .nil⟩
  have c_are_different : Cal P w K mg base 1 "are_different" [] (Tr.spT K wr_are_different) := ⟨_, fd_are_different, ["texts"], [], g_are_different, F_are_different.kp, ot_are_different F_are_different m_len m_set, F_are_different.bindsN (fun _ _ _ _ _ _ us hl => match us, hl with | [_], _ => rfl), .nil⟩
  have c_is_names : Cal P w K mg base 2 "is_names" [] (Tr.spT K (wr_is_names (Cs3 K))) := ⟨_, fd_is_names, ["thing", "least", "most"], [], g_is_names, F_is_names.kp, ot_is_names F_is_names c_is_list c_is_name c_are_different m_all m_len, F_is_names.bindsN (fun _ _ _ _ _ _ us hl => match us, hl with | [_, _, _], _ => rfl), .nil⟩
  have c_is_of_lot : Cal P w K mg base 1 "is_of_lot" [] (Tr.spT K wr_is_of_lot) := ⟨_, fd_is_of_lot, ["text"], [], g_is_of_lot, F_is_of_lot.kp, ot_is_of_lot F_is_of_lot k_NEW k_OLD, F_is_of_lot.bindsN (fun _ _ _ _ _ _ us hl => match us, hl with | [_], _ => rfl), .nil⟩
  have c_name_in : Cal P w K mg base 2 "name_in" [] (Tr.spT K wr_name_in) := ⟨_, fd_name_in, ["word"], [], g_name_in, F_name_in.kp, ot_name_in F_name_in c_is_of_lot k_OLD m_len, F_name_in.bindsN (fun _ _ _ _ _ _ us hl => match us, hl with | [_], _ => rfl), .nil⟩
  have c_is_word : Cal P w K mg base 3 "is_word" [] (Tr.spT K (wr_is_word (Cs3 K))) := ⟨_, fd_is_word, ["thing"], [], g_is_word, F_is_word.kp, ot_is_word F_is_word c_name_in c_is_name m_isinstance m_str OT, F_is_word.bindsN (fun _ _ _ _ _ _ us hl => match us, hl with | [_], _ => rfl), .nil⟩
  have c_is_bound : Cal P w K mg base 2 "is_bound" [] (Tr.spT K (wr_is_bound (Cs3 K))) := ⟨_, fd_is_bound, ["thing"], [], g_is_bound, F_is_bound.kp, ot_is_bound F_is_bound c_is_integer k_GREATEST_BOUND, F_is_bound.bindsN (fun _ _ _ _ _ _ us hl => match us, hl with | [_], _ => rfl), .nil⟩
  have c_are_words : Cal P w K mg base 4 "are_words" [] (Tr.spT K (wr_are_words (Cs3 K))) := ⟨_, fd_are_words, ["thing"], [], g_are_words, F_are_words.kp, ot_are_words F_are_words c_is_list c_is_word c_are_different m_all m_len, F_are_words.bindsN (fun _ _ _ _ _ _ us hl => match us, hl with | [_], _ => rfl), .nil⟩
  have c_is_test : Cal P w K mg base 5 "is_test" [] (Tr.spT K (wr_is_test (Cs3 K))) := ⟨_, fd_is_test, ["thing"], [], g_is_test, F_is_test.kp, ot_is_test F_is_test c_is_list c_are_words c_is_bound m_len, F_is_test.bindsN (fun _ _ _ _ _ _ us hl => match us, hl with | [_], _ => rfl), .nil⟩
  have c_is_verb : Cal P w K mg base 1 "is_verb" [] (Tr.spT K (wr_is_verb (Cs3 K))) := ⟨_, fd_is_verb, ["thing"], [], g_is_verb, F_is_verb.kp, ot_is_verb F_is_verb k_ADD k_SET m_isinstance m_str OT, F_is_verb.bindsN (fun _ _ _ _ _ _ us hl => match us, hl with | [_], _ => rfl), .nil⟩
  have c_is_deed : Cal P w K mg base 2 "is_deed" [] (Tr.spT K (wr_is_deed (Cs3 K) (He.ga K "Form") (He.ga K "Statement"))) := ⟨_, fd_is_deed, ["thing"], [], g_is_deed, F_is_deed.kp, ot_is_deed F_is_deed c_is_list c_is_verb c_is_name k_REFUSE m_isinstance m_len m_str g_Form g_Statement OT i_Form i_Statement, F_is_deed.bindsN (fun _ _ _ _ _ _ us hl => match us, hl with | [_], _ => rfl), .nil⟩
  have c_kept_test : Cal P w K mg base 1 "kept_test" [] (Tr.spT K wr_kept_test) := ⟨_, fd_kept_test, ["test"], [], g_kept_test, F_kept_test.kp, ot_kept_test F_kept_test m_sorted m_tuple, F_kept_test.bindsN (fun _ _ _ _ _ _ us hl => match us, hl with | [_], _ => rfl), .nil⟩
  have c_kept_deed : Cal P w K mg base 2 "kept_deed" [] (Tr.spT K (wr_kept_deed (Cs3 K))) := ⟨_, fd_kept_deed, ["deed"], [], g_kept_deed, F_kept_deed.kp, ot_kept_deed F_kept_deed c_is_list m_tuple, F_kept_deed.bindsN (fun _ _ _ _ _ _ us hl => match us, hl with | [_], _ => rfl), .nil⟩
  have c_are_tests : Cal P w K mg base 6 "are_tests" [] (Tr.spT K (wr_are_tests (Cs3 K))) := ⟨_, fd_are_tests, ["thing"], [], g_are_tests, F_are_tests.kp, ot_are_tests F_are_tests c_is_list c_is_test k_MOST_TESTS m_all m_len, F_are_tests.bindsN (fun _ _ _ _ _ _ us hl => match us, hl with | [_], _ => rfl), .nil⟩
  have c_are_deeds : Cal P w K mg base 3 "are_deeds" [] (Tr.spT K (wr_are_deeds (Cs3 K) (He.ga K "Form") (He.ga K "Statement"))) := ⟨_, fd_are_deeds, ["thing"], [], g_are_deeds, F_are_deeds.kp, ot_are_deeds F_are_deeds c_is_list c_is_deed k_MOST_DEEDS m_all m_len, F_are_deeds.bindsN (fun _ _ _ _ _ _ us hl => match us, hl with | [_], _ => rfl), .nil⟩
  have c__law_lots : Cal P w K mg base 1 "_law_lots" [] (Tr.spT K wr_l_lots) := ⟨_, fd__law_lots, ["_law_kinds"], [], g__law_lots, F__law_lots.kp, ot_l_lots F__law_lots , F__law_lots.bindsN (fun _ _ _ _ _ _ us hl => match us, hl with | [_], _ => rfl), .nil⟩
  have c__law_sum : Cal P w K mg base 4 "_law_sum" [] (Tr.spT K wr_l_sum) := ⟨_, fd__law_sum, ["_law_source_here", "_law_words"], [], g__law_sum, F__law_sum.kp, ot_l_sum F__law_sum c__law_some c__law_draw, F__law_sum.bindsN (fun _ _ _ _ _ _ us hl => match us, hl with | [_, _], _ => rfl), .nil⟩
  have c__law_deed : Cal P w K mg base 5 "_law_deed" [] (Tr.spT K wr_l_deed) := ⟨_, fd__law_deed, ["_law_source_here", "_law_kinds", "_law_counters"], [], g__law_deed, F__law_deed.kp, ot_l_deed F__law_deed c__law_draw c__law_plan c__law_pick c__law_lots c__law_sum, F__law_deed.bindsN (fun _ _ _ _ _ _ us hl => match us, hl with | [_, _, _], _ => rfl), .nil⟩
  have c__law_hook : Cal P w K mg base 6 "_law_hook" [] (Tr.spT K wr_l_hook) := ⟨_, fd__law_hook, ["_law_source_here", "_law_name_here", "_law_kinds", "_law_counters"], [], g__law_hook, F__law_hook.kp, ot_l_hook F__law_hook c__law_draw c__law_lots c__law_some c__law_deed c__law_subset m_range, F__law_hook.bindsN (fun _ _ _ _ _ _ us hl => match us, hl with | [_, _, _, _], _ => rfl), .nil⟩
  have c__law_made_deed : Cal P w K mg base 7 "_law_made_deed" [] (Tr.spT K (wr_l_made_deed (He.ga K "Form") (He.ga K "Statement"))) := ⟨_, fd__law_made_deed, ["_law_deed_here"], [], g__law_made_deed, F__law_made_deed.kp, ot_l_made_deed F__law_made_deed c_Form0 c_Statement0, F__law_made_deed.bindsN (fun _ _ _ _ _ _ us hl => match us, hl with | [_], _ => rfl), .nil⟩
  have c__law_is_name : Cal P w K mg base 1 "_law_is_name" [] (Tr.spT K (wr_l_is_name (Cs3 K))) := ⟨_, fd__law_is_name, ["_law_value"], [], g__law_is_name, F__law_is_name.kp, ot_l_is_name F__law_is_name m_all m_isinstance m_len m_str OT, F__law_is_name.bindsN (fun _ _ _ _ _ _ us hl => match us, hl with | [_], _ => rfl), .nil⟩
  have c__law_are_names : Cal P w K mg base 2 "_law_are_names" [] (Tr.spT K (wr_l_are_names (Cs3 K))) := ⟨_, fd__law_are_names, ["_law_value"], [], g__law_are_names, F__law_are_names.kp, ot_l_are_names F__law_are_names c__law_is_name m_all m_enumerate m_isinstance m_list m_tuple OT, F__law_are_names.bindsN (fun _ _ _ _ _ _ us hl => match us, hl with | [_], _ => rfl), .nil⟩
  have c__law_is_word : Cal P w K mg base 2 "_law_is_word" [] (Tr.spT K (wr_l_is_word (Cs3 K))) := ⟨_, fd__law_is_word, ["_law_value"], [], g__law_is_word, F__law_is_word.kp, ot_l_is_word F__law_is_word c__law_is_name m_isinstance m_str OT, F__law_is_word.bindsN (fun _ _ _ _ _ _ us hl => match us, hl with | [_], _ => rfl), .nil⟩
  have c__law_is_bound : Cal P w K mg base 1 "_law_is_bound" [] (Tr.spT K (wr_l_is_bound (Cs3 K))) := ⟨_, fd__law_is_bound, ["_law_value"], [], g__law_is_bound, F__law_is_bound.kp, ot_l_is_bound F__law_is_bound m_bool m_int m_isinstance OT, F__law_is_bound.bindsN (fun _ _ _ _ _ _ us hl => match us, hl with | [_], _ => rfl), .nil⟩
  have c__law_is_test : Cal P w K mg base 3 "_law_is_test" [] (Tr.spT K (wr_l_is_test (Cs3 K))) := ⟨_, fd__law_is_test, ["_law_value"], [], g__law_is_test, F__law_is_test.kp, ot_l_is_test F__law_is_test c__law_is_word c__law_is_bound m_all m_enumerate m_isinstance m_len m_list m_tuple OT, F__law_is_test.bindsN (fun _ _ _ _ _ _ us hl => match us, hl with | [_], _ => rfl), .nil⟩
  have c__law_is_deed : Cal P w K mg base 2 "_law_is_deed" [] (Tr.spT K (wr_l_is_deed (Cs3 K) (He.ga K "Form") (He.ga K "Statement"))) := ⟨_, fd__law_is_deed, ["_law_value"], [], g__law_is_deed, F__law_is_deed.kp, ot_l_is_deed F__law_is_deed c__law_is_name m_isinstance m_len m_list m_str m_tuple g_Form g_Statement OT i_Form i_Statement, F__law_is_deed.bindsN (fun _ _ _ _ _ _ us hl => match us, hl with | [_], _ => rfl), .nil⟩
  have c__law_due : Cal P w K mg base 4 "_law_due" [] (Tr.spT K (wr_l_due (Cs3 K) (He.ga K "Form") (He.ga K "Statement"))) := ⟨_, fd__law_due, ["_law_parts"], [], g__law_due, F__law_due.kp, ot_l_due F__law_due c__law_is_name c__law_are_names c__law_is_test c__law_is_deed m_all m_isinstance m_len m_list m_tuple m_zip OT, F__law_due.bindsN (fun _ _ _ _ _ _ us hl => match us, hl with | [_], _ => rfl), .nil⟩
  have c__law_odd : Cal P w K mg base 7 "_law_odd" [] (Tr.spT K (wr_l_odd (He.ga K "Form"))) := ⟨_, fd__law_odd, ["_law_source_here", "_law_at"], [], g__law_odd, F__law_odd.kp, ot_l_odd F__law_odd c__law_pick c__law_draw c_Form1, F__law_odd.bindsN (fun _ _ _ _ _ _ us hl => match us, hl with | [_, _], _ => rfl), .nil⟩
  have OI : FnOk P w K mg base (L2.CX P w) 7 _ fm_Trigger___init__ ["self", "name", "olds", "news", "tests", "deeds"] (Tr.spI K (He.ga K "Trigger") (wr_Trigger___init__ (Cs3 K) (He.ga K "BadTrigger") (He.ga K "Form") (He.ga K "Statement") (He.ga K "Trigger"))) := ot_Trigger___init__ M_Trigger___init__ c_is_name c_is_names c_are_tests c_are_deeds c_kept_test c_kept_deed m_sorted m_tuple cls_Trigger noat_Trigger__deeds noat_Trigger__label noat_Trigger__news noat_Trigger__olds noat_Trigger__tests r_BadTrigger
  have TG : TrigF P w K mg base (He.ga K "Trigger") (wr_Trigger___init__ (Cs3 K) (He.ga K "BadTrigger") (He.ga K "Form") (He.ga K "Statement") (He.ga K "Trigger")) (wr_Trigger_label (He.ga K "Trigger")) := ⟨g_Trigger, cls_Trigger, mo_wr_Trigger___init__, mo_wr_Trigger_label, ⟨_, fm_Trigger___init__, mkr_Trigger, OI, M_Trigger___init__.bindsN (fun _ _ _ _ _ _ us hl => match us, hl with | [_, _, _, _, _, _], _ => rfl)⟩, ⟨_, _, fp_Trigger_label, propB_ok (c.x 8 (e := propB "Trigger" "label") rfl), ot_Trigger_label P_Trigger_label cls_Trigger noat_Trigger__label, P_Trigger_label.bindsN (fun _ _ _ _ _ _ us hl => match us, hl with | [_], _ => rfl)⟩⟩
  have c__law_tried : Cal P w K mg base 9 "_law_tried" [] (Tr.spT K (trW (He.ga K "BadTrigger") (He.ga K "Trigger") (wr_Trigger___init__ (Cs3 K) (He.ga K "BadTrigger") (He.ga K "Form") (He.ga K "Statement") (He.ga K "Trigger")) (wr_Trigger_label (He.ga K "Trigger")))) := ⟨_, fd__law_tried, ["_law_parts"], [], g__law_tried, F__law_tried.kp, ot_l_tried F__law_tried r_BadTrigger TG (of_decide_eq_true (c.x 3 (e := exX) rfl)), F__law_tried.bindsN (fun _ _ _ _ _ _ us hl => match us, hl with | [_], _ => rfl), .nil⟩
  exact ⟨c__law_source, c__law_names, c__law_hook, c__law_made_deed, c__law_draw, c__law_odd, c__law_tried, c__law_due, m_range, hF, hS⟩
end
end Lw
/-! ## Kz -/
set_option Elab.async false
set_option linter.all false
set_option maxRecDepth 100000
set_option maxHeartbeats 0
open PySem PySem.W PySem.Calls PyProof.Rows
theorem PySem.Challenge.cw_statementlots_k10_bad_triggers_holds : PySem.Challenge.rw_statementlots_k10_bad_triggers.Holds := by
  w_on; o_law
  refine HandSHeadRun.head_any (r := OpenLaw.row PySem.Challenge.rw_statementlots_k10_bad_triggers) (q := view (OpenLaw.row PySem.Challenge.rw_statementlots_k10_bad_triggers).prog [83]) (H := Lw.hk) (ob := Lw.ob) (M := 9000) (loose := Lw.loose) (d := HandSHeadRun.topDef (OpenLaw.row PySem.Challenge.rw_statementlots_k10_bad_triggers).prog 83) (kwd := []) Lw.ob_eq
    (by kernel_rfl) (fun s => by kernel_rfl) Lw.run (by kernel_rfl) (by kernel_rfl) (by kernel_rfl) (by rfl) (by first | assumption | decide +kernel) (by decide +kernel) ⟨rfl, rfl, rfl, rfl, rfl, by decide +kernel⟩ ?hw ?hc
  case hw => w_witness2
  case hc =>
    refine L2.walk_ofE (l := PySem.Challenge.rw_statementlots_k10_bad_triggers) (n := 63) (k := 10) (x := "_law_script") (CX := L2.CX0) rfl (by decide) (by kernel_rfl) ⟨rfl, by decide, by decide⟩ ?F (fun _ _ _ _ z => z)
    intro w mg fa h Y G hmg0
    obtain ⟨K, KX, ct⟩ := Y
    have c := ct.s
    have hmg : mg ("law" : PySem.Str) = some (.ref fa) := by
      have e : (HandSHeadRun.topDef (OpenLaw.row PySem.Challenge.rw_statementlots_k10_bad_triggers).prog 83).name = ("law" : PySem.Str) := by kernel_rfl
      rw [← e]
      exact hmg0
    obtain ⟨fd, F⟩ := c.d.def_ 47 (d := Lw.dF "law" Lw.s_law) rfl
    have e := hmg.symm.trans (He.glo_ok KX G (c.d.fact 47 (f := .glo "law") rfl))
    cases e
    have b := L2.FunD.bindsA (ps := ["_law_script"]) F fun _ _ _ _ _ _ us hl => match us, hl with | [_], _ => rfl
    exact ⟨K, fd, Lw.sp_law K, KX, fun s v => b s [v] rfl, fun H a ns hl _ hS => ⟨a, ns, rfl, hS, hl, fun _ => rfl⟩, fun base _ _ => Lw.ok_law F (Lw.facts_top KX G ct)⟩
#print axioms PySem.Challenge.cw_statementlots_k10_bad_triggers_holds
