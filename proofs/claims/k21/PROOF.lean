import PyProof.Rows.All
import Wide.All
import OpenK.AllK
import Wide.FinOn
import HandS.ForMost
import HandS.ForExc
import HandS.Wide
import HandS.Defaults
import HandS.IsInst
import HandS.Conv
import PySem.Challenge.RW_statementlots_k21_errors_made
import HandS.ExcInit
import HandS.ClsMeth
import HandS.ExcIs
import HandS.DeepEq
import HandS.WideBits
import PyProof.FactsAll.bool_3
import HandS.Head0
import HandS.Head1
import HandS.Head2
import HandS.HeadEnd
import HandS.HeadHook1
import HandS.HeadHook2
/-! ## SlBase -/
set_option Elab.async false
set_option linter.all false
set_option maxRecDepth 100000
set_option maxHeartbeats 4000000
namespace Sl
open PySem PySem.Spec PyProof.Rows L2

/-- a def of the top that lets no exception out: what it promises, at most k levels deep -/
structure Cal (P : Program) (w : World) (K : PySem.W.Frag) (mg : Str → Option Value) (base : Heap) (k : Nat) (x : Str) (dvs : List V) (sp : Sp) : Prop where
  ex : ∃ (f : Addr) (fd : FuncData) (ps : List Str) (ds : List Value), mg x = some (.ref f) ∧ PySem.W.keepIn K (.ref f) = true ∧ FnOk P w K mg base CX0 k f fd ps sp ∧ Binds K fd ps ds ∧ Vals dvs ds
theorem pe_cal {X : Cx} {x : Str} {e : Expr} {es : List Expr} {p pos : Pos} {k : Nat} {dvs : List V} {sp : Sp} {t : TA} (h : Cal X.prog X.w X.K X.mg X.base k x dvs sp) (hr : Room k X.A) (ha : PA X (e :: es) t) (hg : Gl X x := by rfl)
    (hdb : (x == ("__debug__" : Str)) = false := by decide) (he : starEach (e :: es) X.env = (false, eval e X.env) :: starEach es X.env := by rfl) (hpl : (backTo pos (starEach es X.env)).any (·.1) = false := by rfl) :
    PE X (.Call (.Name x p) (e :: es) [] pos) (tCall sp dvs E0 t) := by
  obtain ⟨f, fd, ps, ds, hm, hk, F, hb, hd⟩ := h.ex
  exact pe_call F hr hg hm hk hb hd pass0 ha hdb he hpl

theorem atI_int {α : Type} {xs : List α} {j : Int} {v : α} (h0 : 0 ≤ j) (h : xs[j.toNat]? = some v) : atI xs j = some v := by
  have e := atI_nat h
  rwa [Int.toNat_of_nonneg h0] at e
/-! ### the source of draws -/
def SrcAt (H : Hp) (p : Addr) (n : Nat) : Prop := ∃ g s c : Int, H p = some (.lst [.int g, .int s, .int c]) ∧ 0 ≤ s ∧ s < 2147483647 ∧ 0 ≤ c ∧ c ≤ n
/-- all but p stands -/
def Keep (p : Addr) (H H' : Hp) : Prop := ∀ b o, b ≠ p → H b = some o → H' b = some o
theorem Keep.refl (p : Addr) (H : Hp) : Keep p H H := fun _ _ _ h => h
theorem Keep.trans {p : Addr} {H H1 H2 : Hp} (a : Keep p H H1) (b : Keep p H1 H2) : Keep p H H2 := fun c o n h => b c o n (a c o n h)
theorem Keep.upd {p : Addr} {H : Hp} {o : HO} : Keep p H (upd H p o) := fun b u n h => by rw [upd_ne n]; exact h
theorem Keep.new {p q : Addr} {H : Hp} {o : HO} (hq : H q = none) : Keep p H (L2.upd H q o) := fun b u n h => by rw [upd_ne (ne_of_none h hq)]; exact h
theorem Keep.seq {K : PySem.W.Frag} {p a : Addr} {H H' : Hp} {xs : List V} (k : Keep p H H') (n : a ≠ p) (h : SqL K H a xs) : SqL K H' a xs := by
  rcases h with (h | ⟨o, h⟩) | h
  · exact .inl (.inl (k _ _ n h))
  · exact .inl (.inr ⟨o, k _ _ n h⟩)
  · exact .inr h
theorem SrcAt.mono {H : Hp} {p : Addr} {n m : Nat} (h : SrcAt H p n) (l : n ≤ m) : SrcAt H p m := by
  obtain ⟨g, s, c, e, a1, a2, a3, a4⟩ := h
  exact ⟨g, s, c, e, a1, a2, a3, by omega⟩
theorem SrcAt.there {H : Hp} {p : Addr} {n : Nat} (h : SrcAt H p n) : ∃ o, H p = some o := let ⟨_, _, _, e, _⟩ := h; ⟨_, e⟩
theorem SrcAt.new {H : Hp} {p q : Addr} {n : Nat} {o : HO} (h : SrcAt H p n) (hq : H q = none) : SrcAt (L2.upd H q o) p n := by
  obtain ⟨g, s, c, e, a⟩ := h
  exact ⟨g, s, c, by rw [upd_ne (ne_of_none e hq)]; exact e, a⟩
theorem Keep.free {p q : Addr} {H H' : Hp} (k : Keep p H H') (hp : ∃ o, H' p = some o) (hq : H' q = none) : H q = none := by
  cases e : H q with
  | none => rfl
  | some u =>
    by_cases z : q = p
    · subst z
      obtain ⟨o, ho⟩ := hp
      rw [hq] at ho
      cases ho
    · rw [k q u z e] at hq
      cases hq

def sp_draw : Sp := fun vs H Q _ => ∃ (p : Addr) (m : Int) (n : Nat), vs = [.ref p, .int m] ∧ SrcAt H p n ∧ n ≤ 100000 ∧ 0 < m ∧ m < 2 ^ 200 ∧
  ∀ (k : Int) (H' : Hp), 0 ≤ k → k < m → SrcAt H' p (n + 1) → Keep p H H' → Q (.int k) H'
def sp_source (K : PySem.W.Frag) : Sp := fun vs H Q _ => ∃ (a : Addr) (ns : List Int), vs = [.ref a] ∧ SqL K H a (ns.map V.int) ∧ ns.length ≤ 63 ∧
  ∀ (p : Addr) (H' : Hp), H p = none → SrcAt H' p 0 → (∀ b o, H b = some o → H' b = some o) → Q (.ref p) H'
end Sl
/-! ## HdText -/
set_option Elab.async false
set_option linter.all false
set_option maxRecDepth 100000
set_option maxHeartbeats 4000000
namespace Lw
open PySem PySem.Spec PyProof.Rows L2 Sl
def top (i : Nat) : Stmt := PySem.Challenge.pw_statementlots_k21_errors_made.main.body.getD i (.Pass ⟨0, 0, 0, 0⟩)
abbrev s_shown : Stmt := top 2
/-- slots: 0 field -/
theorem sc_shown : FnScope ["field"] ["field"] (defScope s_shown) := ⟨rfl, rfl, rfl, by decide +kernel, rfl, by decide +kernel, by decide +kernel⟩
abbrev s_LotError___init__ : Stmt := inClass (top 3) 0
/-- slots: 0 self 1 field -/
theorem sc_LotError___init__ : FnScope ["self", "field"] ["self", "field"] (defScope s_LotError___init__) := ⟨rfl, rfl, rfl, by decide +kernel, rfl, by decide +kernel, by decide +kernel⟩
abbrev s_BadTable___init__ : Stmt := inClass (top 4) 0
/-- slots: 0 self 1 name -/
theorem sc_BadTable___init__ : FnScope ["self", "name"] ["self", "name"] (defScope s_BadTable___init__) := ⟨rfl, rfl, rfl, by decide +kernel, rfl, by decide +kernel, by decide +kernel⟩
abbrev s_BadStatement___init__ : Stmt := inClass (top 5) 0
/-- slots: 0 self 1 kind -/
theorem sc_BadStatement___init__ : FnScope ["self", "kind"] ["self", "kind"] (defScope s_BadStatement___init__) := ⟨rfl, rfl, rfl, by decide +kernel, rfl, by decide +kernel, by decide +kernel⟩
abbrev s_BadForm___init__ : Stmt := inClass (top 6) 0
/-- slots: 0 self 1 word -/
theorem sc_BadForm___init__ : FnScope ["self", "word"] ["self", "word"] (defScope s_BadForm___init__) := ⟨rfl, rfl, rfl, by decide +kernel, rfl, by decide +kernel, by decide +kernel⟩
abbrev s_BadNumber___init__ : Stmt := inClass (top 7) 0
/-- slots: 0 self 1 number -/
theorem sc_BadNumber___init__ : FnScope ["self", "number"] ["self", "number"] (defScope s_BadNumber___init__) := ⟨rfl, rfl, rfl, by decide +kernel, rfl, by decide +kernel, by decide +kernel⟩
abbrev s_BadTrigger___init__ : Stmt := inClass (top 8) 0
/-- slots: 0 self 1 place -/
theorem sc_BadTrigger___init__ : FnScope ["self", "place"] ["self", "place"] (defScope s_BadTrigger___init__) := ⟨rfl, rfl, rfl, by decide +kernel, rfl, by decide +kernel, by decide +kernel⟩
abbrev s_BadBook___init__ : Stmt := inClass (top 9) 0
/-- slots: 0 self 1 place -/
theorem sc_BadBook___init__ : FnScope ["self", "place"] ["self", "place"] (defScope s_BadBook___init__) := ⟨rfl, rfl, rfl, by decide +kernel, rfl, by decide +kernel, by decide +kernel⟩
abbrev s_BadText___init__ : Stmt := inClass (top 10) 0
/-- slots: 0 self 1 line -/
theorem sc_BadText___init__ : FnScope ["self", "line"] ["self", "line"] (defScope s_BadText___init__) := ⟨rfl, rfl, rfl, by decide +kernel, rfl, by decide +kernel, by decide +kernel⟩
abbrev s_Overlap___init__ : Stmt := inClass (top 11) 0
/-- slots: 0 self 1 kind -/
theorem sc_Overlap___init__ : FnScope ["self", "kind"] ["self", "kind"] (defScope s_Overlap___init__) := ⟨rfl, rfl, rfl, by decide +kernel, rfl, by decide +kernel, by decide +kernel⟩
abbrev s_Unknown___init__ : Stmt := inClass (top 12) 0
/-- slots: 0 self 1 name -/
theorem sc_Unknown___init__ : FnScope ["self", "name"] ["self", "name"] (defScope s_Unknown___init__) := ⟨rfl, rfl, rfl, by decide +kernel, rfl, by decide +kernel, by decide +kernel⟩
abbrev s_BadPicks___init__ : Stmt := inClass (top 13) 0
/-- slots: 0 self 1 kind -/
theorem sc_BadPicks___init__ : FnScope ["self", "kind"] ["self", "kind"] (defScope s_BadPicks___init__) := ⟨rfl, rfl, rfl, by decide +kernel, rfl, by decide +kernel, by decide +kernel⟩
abbrev s_BadClass___init__ : Stmt := inClass (top 14) 0
/-- slots: 0 self 1 index -/
theorem sc_BadClass___init__ : FnScope ["self", "index"] ["self", "index"] (defScope s_BadClass___init__) := ⟨rfl, rfl, rfl, by decide +kernel, rfl, by decide +kernel, by decide +kernel⟩
abbrev s_Refused___init__ : Stmt := inClass (top 15) 0
/-- slots: 0 self 1 name -/
theorem sc_Refused___init__ : FnScope ["self", "name"] ["self", "name"] (defScope s_Refused___init__) := ⟨rfl, rfl, rfl, by decide +kernel, rfl, by decide +kernel, by decide +kernel⟩
abbrev s_Endless___init__ : Stmt := inClass (top 16) 0
/-- slots: 0 self -/
theorem sc_Endless___init__ : FnScope ["self"] ["self"] (defScope s_Endless___init__) := ⟨rfl, rfl, rfl, by decide +kernel, rfl, by decide +kernel, by decide +kernel⟩
abbrev s_NoDeed___init__ : Stmt := inClass (top 17) 0
/-- slots: 0 self -/
theorem sc_NoDeed___init__ : FnScope ["self"] ["self"] (defScope s_NoDeed___init__) := ⟨rfl, rfl, rfl, by decide +kernel, rfl, by decide +kernel, by decide +kernel⟩
abbrev s_l_source : Stmt := top 19
/-- slots: 0 _law_script 1 _law_great 2 _law_seed 3 _law_cell -/
theorem sc_l_source : FnScope ["_law_script", "_law_great", "_law_seed", "_law_cell"] ["_law_script"] (defScope s_l_source) := ⟨rfl, rfl, rfl, by decide +kernel, rfl, by decide +kernel, by decide +kernel⟩
abbrev s_l_draw : Stmt := top 20
/-- slots: 0 _law_source_here 1 _law_many 2 _law_digit 3 _law_mixed -/
theorem sc_l_draw : FnScope ["_law_source_here", "_law_many", "_law_digit", "_law_mixed"] ["_law_source_here", "_law_many"] (defScope s_l_draw) := ⟨rfl, rfl, rfl, by decide +kernel, rfl, by decide +kernel, by decide +kernel⟩
abbrev s_l_pick : Stmt := top 21
/-- slots: 0 _law_source_here 1 _law_things -/
theorem sc_l_pick : FnScope ["_law_source_here", "_law_things"] ["_law_source_here", "_law_things"] (defScope s_l_pick) := ⟨rfl, rfl, rfl, by decide +kernel, rfl, by decide +kernel, by decide +kernel⟩
abbrev s_l_kinds : Stmt := top 22
/-- slots: 0 _law_e 1 _law_found -/
theorem sc_l_kinds : FnScope ["_law_e", "_law_found"] ["_law_e"] (defScope s_l_kinds) := ⟨rfl, rfl, rfl, by decide +kernel, rfl, by decide +kernel, by decide +kernel⟩
abbrev s_law : Stmt := top 23
/-- slots: 0 _law_script 1 _law_source_here 2 _law_x 3 _law_pairs 4 _law_errors 5 _law_fields 6 _law_k 7 _law_base 8 _law_pair 9 _law_j -/
theorem sc_law : FnScope ["_law_script", "_law_source_here", "_law_x", "_law_pairs", "_law_errors", "_law_fields", "_law_k", "_law_base", "_law_pair", "_law_j"] ["_law_script"] (defScope s_law) := ⟨rfl, rfl, rfl, by decide +kernel, rfl, by decide +kernel, by decide +kernel⟩
end Lw
/-! ## Src -/
set_option Elab.async false
set_option linter.all false
set_option maxRecDepth 100000
set_option maxHeartbeats 4000000
namespace Lw
open PySem PySem.Spec PyProof.Rows L2 Sl
section
variable {P : Program} {w : World} {K : PySem.W.Frag} {mg : Str → Option Value} {base : Heap} {f : Addr} {fd : FuncData}
abbrev FnP (K : PySem.W.Frag) (x : Str) (st : Stmt) (dvs : List V) (f : Addr) (fd : FuncData) : Prop := FunD K x x (defArgs st) (defBody st) (defScope st) dvs [] f fd
theorem ok_draw (F : FnP K "_law_draw" s_l_draw [] f fd) (mInt : mg "int" = none) : FnOk P w K mg base CX0 1 f fd ["_law_source_here", "_law_many"] sp_draw := by
  refine F.ok sc_l_draw (fun vs H Q E h => ?_) (fun cdv A outer s H vs Q E hr h => ?_)
  · obtain ⟨p, m, n, rfl, _⟩ := h
    rfl
  · obtain ⟨p, m, n, rfl, ⟨g, sd, c, hp, s0, s1, c0, c1⟩, hn, hm, hm2, k⟩ := h
    have nd := sc_l_draw.nd
    refine ⟨_, PSs.nox (pss_cons (ps_asg (pe_op op_add (pe_ix ix_list (pv 0) pe_int (fun _ _ => rfl)) pe_int) (pg_sub (pv 0) pe_int set_list))
      (pss_cons (ps_if (pt_cmpR op_gt (pe_ix ix_list (pv 0) pe_int (fun _ _ => rfl)) pe_int (nomark _))
        (pss_cons (ps_set (i := 2) nd rfl (.inl rfl) (pe_op op_mod (pe_callTy call_int1 (by rfl) mInt boot_int (pa_cons (pe_ix ix_list (pv 0) pe_int (fun _ _ => rfl)) pa_nil)) (pv 1)))
        (pss_cons (ps_asg (pe_op op_fdivW (pe_ix ix_list (pv 0) pe_int (fun _ _ => rfl)) (pv 1)) (pg_sub (pv 0) pe_int set_list))
        (pss_one (ps_ret (pv 2))))) pss_nil)
      (pss_cons (ps_set (i := 3) nd rfl (.inl rfl) (pe_op op_mod (pe_op op_pow (pe_op op_add (pe_ix ix_list (pv 0) pe_int (fun _ _ => rfl)) (pe_op op_mul pe_int (pe_ix ix_list (pv 0) pe_int (fun _ _ => rfl)))) pe_int) pe_int))
      (pss_one (ps_ret (pe_op op_mod (pe_op op_mod (pe_op op_pow (pe_op op_add (pe_op op_add (pe_op op_mul (pv 3) pe_int) (pe_op op_mul (pe_op op_mul pe_int (pe_ix ix_list (pv 0) pe_int (fun _ _ => rfl))) (pe_ix ix_list (pv 0) pe_int (fun _ _ => rfl)))) pe_int) pe_int) pe_int) (pv 1))))))), ?_⟩
    refine ⟨_, rfl, p, _, _, _, rfl, rfl, SqL.of hp, rfl, _, _, rfl, rfl, _, rfl, p, _, _, 2, rfl, rfl, hp, rfl, ?_⟩
    have h1 : (upd H p (.lst [V.int g, V.int sd, V.int (c + 1)])) p = some (.lst [V.int g, V.int sd, V.int (c + 1)]) := upd_same
    refine ⟨_, rfl, p, _, _, _, rfl, rfl, SqL.of h1, rfl, _, _, rfl, rfl, _, rfl, ?_⟩
    refine ite2 (fun _ => ?_) (fun _ => ?_)
    · refine ⟨_, rfl, p, _, _, _, rfl, rfl, SqL.of h1, rfl, .inl ⟨_, rfl, _, rfl, _, _, rfl, rfl, hm, ?_⟩⟩
      refine ⟨_, rfl, p, _, _, _, rfl, rfl, SqL.of h1, rfl, _, rfl, _, _, rfl, rfl, wide_div (b := 200) hm (by omega) (by decide) (by decide), _, rfl, p, _, _, 0, rfl, rfl, h1, rfl, ?_⟩
      refine ⟨_, rfl, ?_⟩
      refine k _ _ (Int.emod_nonneg _ (by omega)) (Int.emod_lt_of_pos _ hm) ⟨g / m, sd, c + 1, upd_same, s0, s1, by omega, by omega⟩ ?_
      intro b o nb hb
      rw [upd_ne nb, upd_ne nb]
      exact hb
    · refine ⟨_, rfl, p, _, _, _, rfl, rfl, SqL.of h1, rfl, _, rfl, p, _, _, _, rfl, rfl, SqL.of h1, rfl, _, _, rfl, rfl, .inl (by decide), _, _, rfl, rfl, _, _, rfl, rfl, ⟨by decide, by decide, by omega⟩, _, _, rfl, rfl, (by show (0 : Int) < 2147483629; decide), ?_⟩
      generalize hz : (sd + 7919 * (c + 1)) ^ (5 : Int).toNat % 2147483629 = z
      have z0 : 0 ≤ z := by rw [← hz]; exact Int.emod_nonneg _ (by decide)
      have z1 : z < 2147483629 := by rw [← hz]; exact Int.emod_lt_of_pos _ (by decide)
      have cc : (16807 * (c + 1)) * (c + 1) ≤ 16807 * 100001 * 100001 := by
        exact Int.mul_le_mul (show 16807 * (c + 1) ≤ 16807 * 100001 by omega) (show c + 1 ≤ 100001 by omega) (by omega) (by omega)
      have cc0 : 0 ≤ (16807 * (c + 1)) * (c + 1) := Int.mul_nonneg (by omega) (by omega)
      refine ⟨_, rfl, _, _, rfl, rfl, .inr (by decide), _, rfl, p, _, _, _, rfl, rfl, SqL.of h1, rfl, _, _, rfl, rfl, .inl (by decide), _, rfl, p, _, _, _, rfl, rfl, SqL.of h1, rfl, _, _, rfl, rfl, .inl ⟨by omega, by omega⟩, _, _, rfl, rfl, _, _, rfl, rfl, _, _, rfl, rfl, ⟨by decide, by decide, by omega⟩, _, _, rfl, rfl, (by show (0 : Int) < 1000000007; decide), _, rfl, _, _, rfl, rfl, hm, ?_⟩
      refine k _ _ (Int.emod_nonneg _ (by omega)) (Int.emod_lt_of_pos _ hm) ⟨g, sd, c + 1, h1, s0, s1, by omega, by omega⟩ Keep.upd
end
end Lw
/-! ## Src2 -/
set_option Elab.async false
set_option linter.all false
set_option maxRecDepth 100000
set_option maxHeartbeats 4000000
namespace Lw
open PySem PySem.Spec PyProof.Rows L2 Sl
section
variable {P : Program} {w : World} {K : PySem.W.Frag} {mg : Str → Option Value} {base : Heap} {f : Addr} {fd : FuncData}
theorem ok_source (F : FnP K "_law_source" s_l_source [] f fd) (mInt : mg "int" = none) : FnOk P w K mg base CX0 1 f fd ["_law_script"] (sp_source K) := by
  refine F.ok sc_l_source (fun vs H Q E h => ?_) (fun cdv A outer s H vs Q E hr h => ?_)
  · obtain ⟨a, ns, rfl, _⟩ := h
    rfl
  · obtain ⟨a, ns, rfl, hS, hl, k⟩ := h
    have nd := sc_l_source.nd
    refine ⟨_, PSs.nox (pss_cons (ps_asg (pe_tup (pa_cons pe_int (pa_cons pe_int pa_nil))) (pg_tup rfl (pgs_cons (pg_name (i := 1) nd rfl (.inl rfl)) (pgs_cons (pg_name (i := 2) nd rfl (.inl rfl)) pgs_nil))))
      (pss_cons (ps_for PassesOwn.never rfl (pi_list (pv 0)) (pg_name (i := 3) nd rfl (Or.inl rfl))
        (pss_cons (ps_if (PW.pt (pw_and (pt_cmpR op_eq (pv 1) pe_int (nomark _)) (pw_and1 (pt_cmpR op_ge (pv 3) (pe_op op_pow pe_int pe_int) (nomark _)))))
          (pss_one (ps_set (i := 1) nd rfl (.inl rfl) (pv 3))) pss_nil)
        (pss_one (ps_set (i := 2) nd rfl (.inl rfl) (pe_op op_mod (pe_callTy call_int1 (by rfl) mInt boot_int (pa_cons (pe_op op_add (pe_op op_add (pe_op op_mul (pv 2) pe_int) (pv 3)) pe_int) pa_nil)) pe_int)))))
      (pss_one (ps_ret (pe_lst (pa_cons (pv 1) (pa_cons (pv 2) (pa_cons pe_int pa_nil)))))))), ?_⟩
    refine ⟨(by show 2 ≤ sizeLine; decide), fun t ht => ?_⟩
    refine ⟨t, _, rfl, SqT.of upd_same, rfl, _, _, rfl, _, _, rfl, rfl, ?_⟩
    have s1 : Same H (upd H t (.tup [V.int 0, V.int 17])) := fun b o e => by
      rw [upd_ne (ne_of_none e ht)]
      exact e
    generalize hH : upd H t (.tup [V.int 0, V.int 17]) = H1 at s1
    refine ⟨_, rfl, a, rfl, ⟨_, s1.seq hS⟩, for_list (K := K) (a := a) (xs := ns.map V.int) (fun i σ H2 => ∃ (g sd : Int) (v : Option V), σ = [some (.ref a), some (.int g), some (.int sd), v] ∧ H2 = H1 ∧ 0 ≤ sd ∧ sd < 2147483647)
      ⟨0, 17, none, rfl, rfl, by decide, by decide⟩ (fun i σ H2 _ ⟨_, _, _, _, e, _⟩ => by rw [e]; exact s1.seq hS) ?_ ?_⟩
    · rintro i y σ H2 hi ⟨g, sd, v, rfl, rfl, h0, h1⟩
      obtain ⟨z, rfl⟩ : ∃ z, y = V.int z := by
        rw [List.getElem?_map] at hi
        cases e : ns[i]? with
        | none =>
          rw [e] at hi
          cases hi
        | some z =>
          rw [e] at hi
          exact ⟨z, (Option.some.inj hi).symm⟩
      refine ⟨_, rfl, rfl, _, rfl, ?_⟩
      refine ite2 (fun hz => ?_) (fun hz => ?_)
      · refine ⟨_, rfl, _, _, rfl, rfl, ⟨by decide, by decide, by decide⟩, _, _, rfl, rfl, _, rfl, ?_⟩
        refine ite2 (fun _ => ?_) (fun _ => ?_)
        · refine ⟨_, rfl, ?_⟩
          refine ⟨_, rfl, _, _, rfl, rfl, .inl ⟨by omega, by omega⟩, _, rfl, _, _, rfl, rfl, _, _, rfl, rfl, .inl ⟨_, rfl, ?_⟩⟩
          refine ⟨_, _, rfl, rfl, (by show (0 : Int) < 2147483647; decide), ?_⟩
          exact ⟨_, _, _, rfl, rfl, Int.emod_nonneg _ (by decide), Int.emod_lt_of_pos _ (by decide)⟩
        · refine ⟨_, rfl, _, _, rfl, rfl, .inl ⟨by omega, by omega⟩, _, rfl, _, _, rfl, rfl, _, _, rfl, rfl, .inl ⟨_, rfl, ?_⟩⟩
          refine ⟨_, _, rfl, rfl, (by show (0 : Int) < 2147483647; decide), ?_⟩
          exact ⟨_, _, _, rfl, rfl, Int.emod_nonneg _ (by decide), Int.emod_lt_of_pos _ (by decide)⟩
      · refine iteF ?_
        refine ⟨_, rfl, _, _, rfl, rfl, .inl ⟨by omega, by omega⟩, _, rfl, _, _, rfl, rfl, _, _, rfl, rfl, .inl ⟨_, rfl, ?_⟩⟩
        refine ⟨_, _, rfl, rfl, (by show (0 : Int) < 2147483647; decide), ?_⟩
        exact ⟨_, _, _, rfl, rfl, Int.emod_nonneg _ (by decide), Int.emod_lt_of_pos _ (by decide)⟩
    · rintro σ H2 ⟨g, sd, v, rfl, rfl, h0, h1⟩
      refine ⟨_, rfl, _, rfl, (by show 3 ≤ sizeLine; decide), fun p hp => ?_⟩
      refine k p _ (s1.free hp) ⟨g, sd, 0, upd_same, h0, h1, by omega, by omega⟩ fun b o hb => ?_
      rw [upd_ne (ne_of_none (s1 b o hb) hp)]
      exact s1 b o hb
def sp_pick (K : PySem.W.Frag) : Sp := fun vs H Q _ => ∃ (p q : Addr) (xs : List V) (n : Nat), vs = [.ref p, .ref q] ∧ SrcAt H p n ∧ n ≤ 100000 ∧ SqL K H q xs ∧ q ≠ p ∧ 0 < xs.length ∧ xs.length ≤ 100000 ∧
  ∀ (v : V) (H' : Hp), v ∈ xs → SrcAt H' p (n + 1) → Keep p H H' → Q v H'
theorem ok_pick (F : FnP K "_law_pick" s_l_pick [] f fd) (D : Cal P w K mg base 1 "_law_draw" [] sp_draw) (mLen : mg "len" = none) : FnOk P w K mg base CX0 2 f fd ["_law_source_here", "_law_things"] (sp_pick K) := by
  refine F.ok sc_l_pick (fun vs H Q E h => ?_) (fun cdv A outer s H vs Q E hr h => ?_)
  · obtain ⟨p, q, xs, n, rfl, _⟩ := h
    rfl
  · obtain ⟨p, q, xs, n, rfl, hp, hn, hq, ne, h0, h1, k⟩ := h
    refine ⟨_, PSs.nox (pss_one (ps_ret (pe_ix ix_list (pv 1) (pe_cal D hr (pa_cons (pv 0) (pa_cons (pe_callB call_len_seq (by rfl) mLen boot_len (pa_cons (pv 1) pa_nil)) pa_nil))) (fun _ _ => rfl)))), ?_⟩
    refine ⟨_, rfl, _, rfl, _, rfl, q, _, rfl, .inl hq, p, _, n, rfl, hp, hn, by omega, by omega, fun j H' j0 j1 hp' kp => ?_⟩
    have hj : j.toNat < xs.length := by omega
    exact ⟨q, xs, j, xs[j.toNat], rfl, rfl, kp.seq ne hq, atI_int j0 (List.getElem?_eq_getElem hj), k _ _ (List.getElem_mem hj) hp' kp⟩
end
end Lw
/-! ## SlExc -/
set_option Elab.async false
set_option linter.all false
set_option maxRecDepth 100000
set_option maxHeartbeats 4000000
namespace Sl
open PySem PySem.Spec PyProof.Rows L2
section
variable {X : Cx} {CX : CXT} {k : Nat} {f D fI : Addr} {fd : FuncData} {ps : List Str} {sp : Sp} {ds : List Value} {dvs : List V} {E : XK} {x m : Str} {mc : Value} {e : Expr} {es : List Expr} {p p1 p2 pos : Pos} {t : TA}
/-- D.m(e, ..): a def read off an own class -/
theorem pe_clsfn {pl : Sem Bool} (hg : Gl X x) (hm : X.mg x = some (.ref D)) (r : ClX.CRead X.K D mc) (kv : PySem.W.findCls X.K (.ref D) mc m = some (.val (.ref f))) (hk : PySem.W.keepIn X.K (.ref f) = true)
    (F : FnOk X.prog X.w X.K X.mg X.base CX k f fd ps sp) (hr : Room k X.A) (hb : Binds X.K fd ps ds) (hd : Vals dvs ds) (hx : Passes CX X E) (ha : PA X (e :: es) t)
    (hc : eval (.Call (.Attribute (.Name x p1) m p2) (e :: es) [] pos) X.env = (do
      let ov ← eval (.Name x p1) X.env
      standAt p2.atName
      let (f, first) ← holding [ov] (getMethod ov m pl)
      callWith pos f first (backTo pos (starEach (e :: es) X.env)) (backToKw pos (keywordEach [] X.env))) := by rfl)
    (hdb : (x == ("__debug__" : Str)) = false := by decide)
    (he : starEach (e :: es) X.env = (false, eval e X.env) :: starEach es X.env := by rfl) (hpl : (backTo pos (starEach es X.env)).any (·.1) = false := by rfl) :
    PE X (.Call (.Attribute (.Name x p1) m p2) (e :: es) [] pos) (tCall sp dvs E t) := by
  refine ⟨fun pins s σ H Q I h => ?_⟩
  refine PySem.W.methodCall_KW (ld_glob I hg hm ?_ hdb) hc
  refine PySem.W.method_cls I.kIn r.ga (ClX.getcval_ok (v := .ref f) I r ⟨kv, rfl⟩ fun s1 I1 => ?_)
  refine PySem.W.callWith_K (h₀ := X.base) I1.ok.mod.kin hk (thn (ha.run pos pins s1 σ H _ I1 h) fun us s2 ⟨vs, H2, I2, r2, q⟩ => ⟨I2.kIn, ?_⟩) he hpl
  exact run_fn F hr hb hd hx I2 r2 q
/-- C(e, ..), an own exception, as a value -/
def tExc (C : Addr) (sp : Sp) (dvs : List V) (ta : TA) : TE := fun σ H Q => ta σ H fun vs H1 => vs.length ≤ 1000 ∧ ∀ a, H1 a = none → sp (.ref a :: (vs ++ dvs)) (upd H1 a (exo a C none)) (fun v H2 => v = .non ∧ Q (.ref a) H2) (fun _ _ _ => False)
theorem run_exc {C : Addr} {pins : List (Addr × Obj)} {σ : L2.St} {H1 : Hp} {s1 : Shared} {Q : VK} {us : List Value} {vs : List V} (T : OexC X.K C) (iC : PySem.W.findIn X.K (.ref C) "__init__" = some (some (.ref fI))) (tI : PySem.W.typeIn X.K (.ref fI) = some (.type "function"))
    (F1 : FnOk X.prog X.w X.K X.mg X.base CX k fI fd ps sp) (hr : Room (k + 1) X.A) (hb : Binds X.K fd ps ds) (hd : Vals dvs ds) (hx : Passes CX X (fun _ _ _ => False)) (I1 : Inv X pins σ H1 s1) (r1 : Vals vs us) (hz : vs.length ≤ 1000)
    (q1 : ∀ a, H1 a = none → sp (.ref a :: (vs ++ dvs)) (upd H1 a (exo a C none)) (fun v H2 => v = .non ∧ Q (.ref a) H2) (fun _ _ _ => False)) :
    wpAny (model X.prog X.w) X.A (call (.ref C) us) (EP X pins σ Q) X.xe s1 := by
  obtain ⟨nm, q, N, bs, bm, sn, sub, ab, col, dd, k0, k1, k2, k3, k5, hC, hbm⟩ := T.cls
  obtain ⟨hp, g, dr, tk, os⟩ := s1
  have hsz : hp.objs.size ≤ hp.objs.size + 1 := Nat.le_succ _
  have hn : H1 (hp.objs.size + 1) = none := I1.hok.fresh hsz
  have hq := q1 (hp.objs.size + 1) hn
  have kk : ∀ b o, hp.get? b = some o → ((hp.push (PySem.W.kdv_tup us)).push (PySem.HandSPX.excO C hp.objs.size)).get? b = some o := fun b o e => Heap.get?_push_of_some _ (Heap.get?_push_of_some _ e)
  have hget : ((hp.push (PySem.W.kdv_tup us)).push (PySem.HandSPX.excO C hp.objs.size)).get? (hp.objs.size + 1) = some (PySem.HandSPX.excO C hp.objs.size) := by heap_get
  have I2 : Inv X pins σ (upd H1 (hp.objs.size + 1) (exo (hp.objs.size + 1) C none)) ⟨(hp.push (PySem.W.kdv_tup us)).push (PySem.HandSPX.excO C hp.objs.size), g, dr, tk, os⟩ :=
    I1.laid (t' := tk) (a := hp.objs.size + 1) (o := exo (hp.objs.size + 1) C none) kk hsz (exo_ok hget)
  have r2 : Vals (V.ref (hp.objs.size + 1) :: (vs ++ dvs)) (Value.ref (hp.objs.size + 1) :: (us ++ ds)) := .cons rfl (r1.append hd)
  have hl : (Value.ref (hp.objs.size + 1) :: us ++ ds).length = ps.length := by
    have e := r2.length
    rw [F1.len _ _ _ _ hq] at e
    exact e.symm
  have hus : us.length ≤ sizeLine := by
    rw [← Paired.length r1, sizeLine_eq]
    omega
  refine wpAny_call (PySem.HandSPX.call_own F.excBase_ValueError (fun Y => PySem.HandSPX.refsVE_contains Y bm hbm) (I1.kIn _ _ hC) (PySem.W.looks_findIn I1.kIn iC) (fun self => PySem.W.bind_fn I1.kIn self tI) hus
    (codeAny_mono (F1.run _ X.stack _ _ ⟨Value.ref (hp.objs.size + 1) :: us, []⟩ (Value.ref (hp.objs.size + 1) :: (us ++ ds)) _ _ (fun _ _ _ => False) (hr.make C us []) (I2.env0.make C us []) (hb _ (Value.ref (hp.objs.size + 1) :: us) I2.kIn hl) r2 hq) fun r s' hq' => ?_))
  cases r with
  | error er => exact hx pins σ _ _ er s' I2 hq'
  | ok fl =>
    cases fl with
    | ret u =>
      obtain ⟨v, H3, I3, rv, ev, q3⟩ := I2.after hq'
      subst ev
      exact ⟨rv, ⟨V.ref (hp.objs.size + 1), H3, I3, rfl, q3⟩⟩
    | next => exact False.elim hq'
    | brk => exact False.elim hq'
    | cont => exact False.elim hq'
theorem pe_exc {C : Addr} (T : OexC X.K C) (iC : PySem.W.findIn X.K (.ref C) "__init__" = some (some (.ref fI))) (tI : PySem.W.typeIn X.K (.ref fI) = some (.type "function"))
    (F1 : FnOk X.prog X.w X.K X.mg X.base CX k fI fd ps sp) (hr : Room (k + 1) X.A) (hb : Binds X.K fd ps ds) (hd : Vals dvs ds) (hx : Passes CX X (fun _ _ _ => False)) (hg : Gl X x) (hm : X.mg x = some (.ref C)) (ha : PA X (e :: es) t)
    (hdb : (x == ("__debug__" : Str)) = false := by decide) (he : starEach (e :: es) X.env = (false, eval e X.env) :: starEach es X.env := by rfl) (hpl : (backTo pos (starEach es X.env)).any (·.1) = false := by rfl) :
    PE X (.Call (.Name x p) (e :: es) [] pos) (tExc C sp dvs t) := by
  refine ⟨fun pins s σ H Q I h => ?_⟩
  refine wpAny_Call_Name_kw (ld_glob I hg hm ?_ hdb)
  refine PySem.W.callWith_K (h₀ := X.base) I.ok.mod.kin T.kC (thn (ha.run pos pins s σ H _ I h) fun us s1 ⟨vs, H1, I1, r1, hz, q1⟩ => ⟨I1.kIn, ?_⟩) he hpl
  exact run_exc T iC tI F1 hr hb hd hx I1 r1 hz q1
theorem pe_exc0 {C : Addr} (T : OexC X.K C) (iC : PySem.W.findIn X.K (.ref C) "__init__" = some (some (.ref fI))) (tI : PySem.W.typeIn X.K (.ref fI) = some (.type "function"))
    (F1 : FnOk X.prog X.w X.K X.mg X.base CX k fI fd ps sp) (hr : Room (k + 1) X.A) (hb : Binds X.K fd ps ds) (hd : Vals dvs ds) (hx : Passes CX X (fun _ _ _ => False)) (hg : Gl X x) (hm : X.mg x = some (.ref C))
    (hdb : (x == ("__debug__" : Str)) = false := by decide) : PE X (.Call (.Name x p) [] [] pos) (tExc C sp dvs tNil) := by
  refine ⟨fun pins s σ H Q I h => ?_⟩
  refine wpAny_Call_Name_kw (ld_glob I hg hm ?_ hdb)
  obtain ⟨hz, q1⟩ := h
  exact PySem.W.callWith_K0 I.kIn T.kC (run_exc (us := []) T iC tI F1 hr hb hd hx I .nil hz q1)
end
/-! ### an own exception that is held: its fields, its class -/
/-- what the class at D must say of reading an instance's attributes -/
structure ExR (K : PySem.W.Frag) (D : Addr) : Prop where
  ga : PySem.W.findIn K (.ref D) "__getattribute__" = some (some (.builtin "BaseException.__getattribute__"))
  gg : PySem.W.findIn K (.ref D) "__getattr__" = some none
  sb : PySem.W.subIn K (.ref D) (.type "BaseException") = some true
  hd : PySem.W.hasDictIn K D = true
  cl : PySem.W.findIn K (.ref D) "__class__" = some (some (.builtin "object.__class__"))
  gt : PySem.W.specialIn K (.builtin "object.__class__") "__get__" = some (some (.builtin "getset_descriptor.__get__"))
  tk : PySem.W.takesIn K (.builtin "object.__class__") = some true
  ob : PySem.W.mroIn K D (.type "object") = some true
def tExF (K : PySem.W.Frag) (f : Str) (te : TE) : TE := fun σ H Q => te σ H fun x H1 => ∃ (a D dx : Addr) (fs : List (Str × V)) (v : V), x = .ref a ∧ H1 a = some (exo a D (some dx)) ∧ H1 dx = some (exd dx fs) ∧ ExR K D ∧ PySem.W.findIn K (.ref D) f = some none ∧ fs.lookup f = some v ∧ Q v H1
section
variable {X : Cx} {f : Str} {e : Expr} {te : TE} {pos : Pos}
theorem inst_of {pins : List (Addr × Obj)} {σ : L2.St} {H : Hp} {s : Shared} {a D dx : Addr} {fs : List (Str × V)} (I : Inv X pins σ H s) (ha : H a = some (exo a D (some dx))) (hx : H dx = some (exd dx fs)) :
    ∃ (ox od : Obj) (mA : Str → Option Value), PySem.W.InstAt s.heap a ox D (some od) ∧ (∀ g, PySem.W.lookIn g od = some (mA g)) ∧ ∀ g, RelO (fs.lookup g) (mA g) := by
  obtain ⟨t1, ho⟩ := exo_at I.hok ha
  obtain ⟨mA, hn, hr⟩ := exd_at I.hok hx
  obtain ⟨od, hod, hl⟩ := lookIn_ns hn
  exact ⟨_, od, mA, ⟨ho, rfl, rfl, hod⟩, hl, hr⟩
theorem pe_exf (he : PE X e te) (hb : attributeBase e f X.env (eval e X.env) = eval e X.env := by rfl) : PE X (.Attribute e f pos) (tExF X.K f te) := by
  refine ⟨fun pins s σ H Q I h => attr_of hb (thn (he.run pins s σ H _ I h) fun u s1 hh => ?_)⟩
  obtain ⟨x, H1, I1, rx, a, D, dx, fs, v, rfl, ha, hx, T, nf, lf, q⟩ := hh
  cases rx
  obtain ⟨ox, od, mA, J, hl, hr⟩ := inst_of I1 ha hx
  obtain ⟨u, hu, ru⟩ := RelO.some_of (v := v) (o := mA f) (by rw [← lf]; exact hr f)
  exact HandSPX.exc_get I1.kIn J T.ga T.gg T.sb (PySem.W.findObj_own T.hd nf rfl (by rw [hl, hu])) (handed_of ru) ⟨v, H1, I1.tok _, ru, q⟩
end
/-- e.__class__ of such an instance -/
theorem class_of {prog : Program} {w : World} {A : Around} {E : Value → Shared → Prop} {K : PySem.W.Frag} {x D : Addr} {ox : Obj} {od : Option Obj} {hp : Heap} {gs : Array GenState} {dr : Drawn} {t : Nat} {os : OsState} {Q : Option Value → Shared → Prop} (T : ExR K D) (X : K.In hp) (I : PySem.W.InstAt hp x ox D od)
    (q : Q (some (.ref D)) ⟨hp, gs, dr, t + 1, os⟩) : wpAny (model prog w) A (getAttr? (.ref x) "__class__") Q E ⟨hp, gs, dr, t, os⟩ := by
  have found : PySem.W.findObj K D od "__class__" = some (.bind (.builtin "getset_descriptor.__get__") (.builtin "object.__class__")) := by
    obtain ⟨cd, hc, _⟩ := PySem.W.any_some T.hd
    unfold PySem.W.findObj
    rw [hc, Option.bind_some, T.cl, Option.bind_some]
    simp [T.gt, T.tk]
  have lT := I.type (M := model prog w)
  have lG := PySem.W.looks_findIn (M := model prog w) X T.ga
  have lF := PySem.W.looks_find (M := model prog w) X I found
  have isB : PySem.W.Looks (model prog w) hp (isInstance (.ref x) (.type "BaseException")) true := lT.andThen (PySem.W.looks_subIn X T.sb)
  have other : (Value.builtin "BaseException.__getattribute__" == Value.builtin "object.__getattribute__") = false := by decide +kernel
  -- the look for the hook, then BaseException.__getattribute__ itself
  have inner : wpAny (model prog w) A.in1 (Builtin.«object.__getattribute__» ⟨[.ref x, .str "__class__" t], []⟩) (fun fin s' => fin = .done (.ret (.ref D)) ∧ s' = ⟨hp, gs, dr, t + 1, os⟩) (fun _ _ => False) ⟨hp, gs, dr, t + 1, os⟩ := by
    unfold Builtin.«object.__getattribute__»
    refine wpAny_bind (wpAny_of_eq (a := ((Value.ref x : Value), [Value.str "__class__" t])) (by first | rfl | (simp only [slotArgs]; rfl)) (wpAny_bind (wpAny_pure (wpAny_bind (lT.at (wpAny_bind (lF.at ?_)))))))
    show wpAny _ _ (holding [Value.builtin "object.__class__"] (call (.builtin "getset_descriptor.__get__") [.builtin "object.__class__", .ref x, .ref D]) >>= ret) _ _ _
    refine wpAny_bind (wpAny_holding (wpAny_call (PySem.W.class_get (s := ⟨hp, gs, dr, t + 1, os⟩) (ox := ox) (od := od) X I T.ob ?_)))
    exact wpAny_pure ⟨rfl, rfl⟩
  unfold getAttr? getAttrBy? getAttrBy
  refine wpAny_bind (wpAny_mkText (wpAny_bind (wpAny_attempt (wpAny_holding (wpAny_bind (lT.at (wpAny_bind (lG.at ?_))))))))
  have c1 : (onTheHeap (Value.ref D) && Value.builtin "BaseException.__getattribute__" == Value.builtin "object.__getattribute__") = false := by
    rw [other]
    rfl
  show wpAny _ _ (if (onTheHeap (Value.ref D) && Value.builtin "BaseException.__getattribute__" == Value.builtin "object.__getattribute__") = true then _ else _) _ _ _
  rw [c1, if_neg Bool.false_ne_true]
  unfold getAttrByItsOwn hookBefore
  refine wpAny_bind ?_
  rw [if_pos (show onTheHeap (Value.ref D) = true from rfl)]
  refine (PySem.W.looks_findIn (M := model prog w) X T.gg).at (wpAny_bind (wpAny_attempt (wpAny_holding ?_)))
  unfold callGetattribute
  rw [show (false && onTheHeap (Value.builtin "BaseException.__getattribute__")) = false from rfl, if_neg Bool.false_ne_true]
  unfold boundAndCalled
  rw [PySem.F.excAttr_ValueError.ga.bind (.ref x)]
  refine wpAny_bind (wpAny_pure ?_)
  show wpAny _ _ (call (.builtin "BaseException.__getattribute__") [.ref x, .str "__class__" t]) _ _ _
  refine wpAny_call (codeAny_call_builtin PySem.F.excAttr_ValueError.ga.plain PySem.F.entry_bexc_ga ?_)
  refine @PySem.W.check_slot (model prog w) _ _ ⟨hp, gs, dr, t + 1, os⟩ "BaseException.__getattribute__" "BaseException" "__getattribute__" (.ref x) [.str "__class__" t] [] _ (by decide +kernel) (by decide +kernel) isB (PySem.F.args_bexc_ga (.ref x) (.str "__class__" t)) ?_
  refine wpAny_mono inner (fun fin s' ⟨e1, e2⟩ => ?_) fun _ _ z => z.elim
  subst e1 e2
  show wpAny _ _ (handedOut (.ref D)) _ _ _
  rw [PySem.W.handedOut_of (v := .ref D) rfl]
  first
    | exact wpAny_pure (wpAny_pure q)
    | exact wpAny_pure q
    | exact wpAny_pure (wpAny_bind (wpAny_pure (wpAny_pure q)))
theorem kitx_exo {K : PySem.W.Frag} {x D : Addr} {ox : Obj} {od : Option Obj} (T : ExR K D) : PySem.W.KitX K (.ref x) (.ref D) (fun h => PySem.W.InstAt h x ox D od) where
  ty := fun _ _ _ I => I.type
  it := fun M h X _ => by
    obtain ⟨cd, hc, _⟩ := PySem.W.any_some T.hd
    unfold PySem.W.clsIn at hc
    split at hc
    · rename_i oc dd cd' sl ho
      intro A1 Q1 E1 s1 kp q
      unfold isType loadHead
      exact wpAny_bind (wpAny_loadPart (kp _ _ (X _ _ ho)) (wpAny_pure q))
    · cases hc
  ne := fun h tp dd its n sl X htp => by
    cases hb : (Value.ref D == Value.ref tp) with
    | false => rfl
    | true =>
      have e : D = tp := Value.ref.inj (beq_iff_eq.mp hb)
      subst e
      obtain ⟨cd, hc, _⟩ := PySem.W.any_some T.hd
      unfold PySem.W.clsIn at hc
      split at hc
      · rename_i oc dd2 cd' sl2 ho
        have z := X _ _ ho
        rw [htp] at z
        cases z
      · cases hc
  ca := fun {prog w A E Q s} X I q => by
    obtain ⟨hp, gs, dr, t, os⟩ := s
    exact class_of T X I q
/-- a made exception of the class at D: with its dict at some dx, or without one -/
def ExcAt (H : Hp) (a D : Addr) : Prop := H a = some (exo a D none) ∨ ∃ (dx : Addr) (fs : List (Str × V)), H a = some (exo a D (some dx)) ∧ H dx = some (exd dx fs)
def rIsX (K : PySem.W.Frag) : List V → Hp → VK → Prop := fun xs H Q => ∃ (a D : Addr) (c : V) (cv : Value) (b : Bool), xs = [.ref a, c] ∧ ExcAt H a D ∧ ExR K D ∧ ClsV c cv ∧ PySem.W.kitOne K (.ref D) cv = some b ∧ Q (.bl b) H
theorem call_isx {X : Cx} : CallR X (.builtin "isinstance") (rIsX X.K) := by
  intro pins s σ H xs us Q I r h
  obtain ⟨a, D, c, cv, b, rfl, ha, T, hc, hk, q⟩ := h
  obtain ⟨u1, u2, rfl, r1, r2⟩ := vals2 r
  cases (show u1 = Value.ref a from r1)
  have e := hc.eq r2
  subst e
  have J : ∃ (ox : Obj) (od : Option Obj), PySem.W.InstAt s.heap a ox D od := by
    rcases ha with ha | ⟨dx, fs, ha, hx⟩
    · obtain ⟨t1, ho⟩ := exo_at I.hok ha
      exact ⟨_, none, ho, rfl, rfl, trivial⟩
    · obtain ⟨ox, od, _, J, _⟩ := inst_of I ha hx
      exact ⟨ox, some od, J⟩
  obtain ⟨ox, od, J⟩ := J
  exact PySem.W.kia_one (kitx_exo (ox := ox) (od := od) T) I.kIn J hk (fun z => nomatch z) fun tk => ⟨.bl b, H, I.tok tk, rfl, q⟩
end Sl
/-! ## SlKw -/
set_option Elab.async false
set_option linter.all false
set_option maxRecDepth 100000
set_option maxHeartbeats 4000000
namespace Sl
open PySem PySem.Spec PyProof.Rows L2
section
variable {prog : Program} {w : World} {A : Around} {E : Value → Shared → Prop} {R : Result → Shared → Prop} {h : Heap} {g : Array GenState} {d : Drawn} {t : Nat} {os : OsState}
variable {nm q : Str} {C N : Addr} {bs bm bmB : List Value} {hdct : Bool} {sn : List Str} {sub : List Value} {ab : Bool} {col : Option Bool} {dd : Option Addr} {k0 k1 k2 k3 k5 : Option Value} {B newId initId : String}
theorem kw_tc {kw : List (Str × Value)} {Q : Unit → Shared → Prop} (hC : h.get? C = some (excClassObj nm q C N bs bm hdct sn sub ab col dd k0 k1 k2 k3 k5 newId)) (hq : Q () ⟨h, g, d, t, os⟩) :
    wpAny (model prog w) A (checkBuiltinCall "type.__call__" ⟨[.ref C], kw⟩) Q E ⟨h, g, d, t, os⟩ := by
  have f := tc_sub
  have ht : (⟨h, g, d, t, os⟩ : Shared).TypeIs (.ref C) "type" := ⟨_, hC, rfl⟩
  simp only [checkBuiltinCall, tc_kind, tc_split]
  repeat (any_goals (first | assumption | with_reducible refine wpAny_loadPart_at hC ?_ | with_reducible refine wpAny_onRaise ?_ | with_reducible refine wpAny_map ?_ | wp_step))
theorem kw_check_new (F : ExcBaseFacts B newId initId bmB) (hT : ∀ Y : String, bm.contains (.type Y) = bmB.contains (.type Y)) {kw : List (Str × Value)} {Q : Unit → Shared → Prop}
    (hC : h.get? C = some (excClassObj nm q C N bs bm hdct sn sub ab col dd k0 k1 k2 k3 k5 newId)) (hq : Q () ⟨h, g, d, t, os⟩) : wpAny (model prog w) A (checkBuiltinCall newId ⟨[.ref C], kw⟩) Q E ⟨h, g, d, t, os⟩ := by
  have isSub : (Value.ref C :: bm).contains (.type B) = true := by rw [List.contains_cons, hT, F.hasB, Bool.or_true]
  have noS := F.noStar
  simp only [checkBuiltinCall, F.newKind, F.newSplit, F.newRow]
  repeat (first | refine wpAny_loadPart_at hC ?_ | (refine wpAny_isSubtype_exc hC ?_; rw [isSub]) | refine wpAny_staticBase_exc hC ?_ | refine wpAny_madeBy_exc hC ?_ | simp only [bne_self_eq_false, Bool.false_eq_true, if_false] | wp_step)
  exact hq
theorem kw_new (F : ExcBaseFacts B newId initId bmB) (hT : ∀ Y : String, bm.contains (.type Y) = bmB.contains (.type Y)) {kw : List (Str × Value)}
    (hC : h.get? C = some (excClassObj nm q C N bs bm hdct sn sub ab col dd k0 k1 k2 k3 k5 newId))
    (hq : R (.ok (.ret (.ref (h.objs.size + 1)))) ⟨(h.push (PySem.W.kdv_tup [])).push (PySem.HandSPX.excO C h.objs.size), g, d, t, os⟩) : codeAny (model prog w) A (.builtin newId ⟨[.ref C], kw⟩) R ⟨h, g, d, t, os⟩ := by
  have ends := F.ends
  have c1 : (Value.ref C :: bm).contains (.type B) = true := by rw [List.contains_cons, hT, F.hasB, Bool.or_true]
  have c2 : (Value.ref C :: bm).contains (.type "AttributeError") = false := by rw [List.contains_cons, hT, F.noAttr]; rfl
  have c3 : (Value.ref C :: bm).contains (.type "NameError") = false := by rw [List.contains_cons, hT, F.noName]; rfl
  have small : ([] : List Value).length ≤ sizeLine := Nat.zero_le _
  refine codeAny_builtinAt F.entry ?_
  unfold Builtin.«BaseException.__new__»
  refine PySem.wpAt_bind ?_
  show PySem.wpAt _ _ _ (stack >>= _) _ _ _
  refine PySem.wpAt_bind (PySem.wpAt_stack fun p below => PySem.wpAt_of_wpAny ?_)
  wp_walk
  refine PySem.wpAt_of_wpAny ?_
  rw [F.owner]
  repeat (first | with_reducible refine wpAny_madeHere_exc F.canon hC ?_ | with_reducible refine wpAny_loadPart_at hC ?_ | (with_reducible refine wpAny_isSubtype_exc hC ?_; first | rw [c1] | rw [c2] | rw [c3]) | wp_step)
  show R _ _
  rw [Heap.size_push]
  exact hq
theorem kw_call (F : ExcBaseFacts B newId initId bmB) (hT : ∀ Y : String, bm.contains (.type Y) = bmB.contains (.type Y)) {kw : List (Str × Value)} {fI : Addr} {Q : Fin → Shared → Prop}
    (hC : h.get? C = some (excClassObj nm q C N bs bm hdct sn sub ab col dd k0 k1 k2 k3 k5 newId))
    (hi : PySem.W.Looks (model prog w) h (typeLookup (.ref C) "__init__") (some (.ref fI))) (hb : ∀ self, PySem.W.Looks (model prog w) h (bindSpecial (.ref fI) self) (.ref fI, [self]))
    (hq : codeAny (model prog w) A (.call (.ref fI) ⟨[.ref (h.objs.size + 1)], kw⟩)
      (fun r s' => match r with | .ok (.ret v) => v = .none ∧ Q (.done (.ret (.ref (h.objs.size + 1)))) s' | .ok _ => False | .error e => E e s')
      ⟨(h.push (PySem.W.kdv_tup [])).push (PySem.HandSPX.excO C h.objs.size), g, d, t, os⟩) :
    wpAny (model prog w) A (Builtin.«type.__call__» ⟨[.ref C], kw⟩) Q E ⟨h, g, d, t, os⟩ := by
  repeat (first | with_reducible refine wpAny_loadPart_at hC ?_ | with_reducible refine wpAny_madeBy_exc hC ?_ | wp_step)
  refine codeAny_call_builtin_code (Code.quiet_builtin _ F.quiet) (kw_check_new F hT hC ?_)
  refine kw_new F hT hC ?_
  show wpAny _ _ _ _ _ _
  have kp : ∀ b o, h.get? b = some o → ((h.push (PySem.W.kdv_tup [])).push (PySem.HandSPX.excO C h.objs.size)).get? b = some o := fun b o e => Heap.get?_push_of_some _ (Heap.get?_push_of_some _ e)
  have cC := kp _ _ hC
  have own : ((h.push (PySem.W.kdv_tup [])).push (PySem.HandSPX.excO C h.objs.size)).get? (h.objs.size + 1) = some (PySem.HandSPX.excO C h.objs.size) := by heap_get
  have self : (Value.ref C :: bm).contains (.ref C) = true := by simp
  unfold isInstance
  repeat (first | with_reducible refine wpAny_loadPart_at own ?_ | (with_reducible refine wpAny_isSubtype_exc cC ?_; rw [self]) | wp_step)
  show wpAny _ _ (typeLookup (.ref C) _) _ _ _
  refine (hi.keeps kp).at (wpAny_holding (wpAny_bind (((hb (.ref (h.objs.size + 1))).keeps kp).at ?_)))
  refine wpAny_bind (wpAny_call (codeAny_mono hq fun r s' z => ?_))
  rcases r with e | (v | _ | _ | _) <;> first | exact z | exact z.elim | skip
  obtain ⟨rfl, z⟩ := z
  first
    | exact wpAny_pure (wpAny_pure z)
    | (wp_walk; exact z)
end
section
variable {X : Cx} {CX : CXT} {k : Nat} {fI C : Addr} {fd : FuncData} {ps ks : List Str} {sp : Sp} {x : Str} {p pos : Pos} {kws : List Keyword} {tk : TA} {g : List Value → List Value → List Value} {gV : List V → List V → List V}
/-- C(k = v, ..), an own exception, as a value: keywords alone -/
def tExcK (C : Addr) (m : Nat) (sp : Sp) (gV : List V → List V → List V) (tk : TA) : TE := fun σ H Q => tk σ H fun zs H1 => zs.length = m ∧ ∀ a, H1 a = none → sp (gV [.ref a] zs) (upd H1 a (exo a C none)) (fun v H2 => v = .non ∧ Q (.ref a) H2) (fun _ _ _ => False)
theorem pe_excK (T : OexC X.K C) (iC : PySem.W.findIn X.K (.ref C) "__init__" = some (some (.ref fI))) (tI : PySem.W.typeIn X.K (.ref fI) = some (.type "function"))
    (F1 : FnOk X.prog X.w X.K X.mg X.base CX k fI fd ps sp) (hr : Room (k + 1) X.A) (hb : KBn X.K fd ps 1 ks g gV) (hx : Passes CX X (fun _ _ _ => False)) (hg : Gl X x) (hm : X.mg x = some (.ref C)) (hkw : PK X kws tk)
    (hall : (backToKw pos (keywordEach kws X.env)).all (·.1.isSome) = true := by rfl) (hks : (backToKw pos (keywordEach kws X.env)).filterMap (·.1) = ks := by rfl) (hdb : (x == ("__debug__" : Str)) = false := by decide)
    (hpl : ((backTo pos (starEach [] X.env)).any (·.1) || (backToKw pos (keywordEach kws X.env)).any (·.1.isNone)) = false := by rfl) :
    PE X (.Call (.Name x p) [] kws pos) (tExcK C ks.length sp gV tk) := by
  refine ⟨fun pins s σ H Q I h => ?_⟩
  refine wpAny_Call_Name_kw (ld_glob I hg hm ?_ hdb)
  refine PySem.W.callWith_KW0 (h₀ := X.base) I.ok.mod.kin T.kC hall (thn (hkw.run pos pins s σ H _ I h) fun ws s1 ⟨zs, H1, I1, rz, lz, q1⟩ => ⟨I1.kIn, ?_⟩) hpl
  rw [hks]
  obtain ⟨nm, q, N, bs, bm, sn, sub, ab, col, dd, k0, k1, k2, k3, k5, hC, hbm⟩ := T.cls
  obtain ⟨hp, gs, dr, tk', os⟩ := s1
  have hq := q1 (hp.objs.size + 1) (I1.hok.fresh (Nat.le_succ _))
  have stays : ∀ b o, hp.get? b = some o → ((hp.push (PySem.W.kdv_tup [])).push (PySem.HandSPX.excO C hp.objs.size)).get? b = some o := fun b o e => Heap.get?_push_of_some _ (Heap.get?_push_of_some _ e)
  have mine : ((hp.push (PySem.W.kdv_tup [])).push (PySem.HandSPX.excO C hp.objs.size)).get? (hp.objs.size + 1) = some (PySem.HandSPX.excO C hp.objs.size) := by heap_get
  have I2 := I1.laid (t' := tk') (a := hp.objs.size + 1) (o := exo (hp.objs.size + 1) C none) stays (Nat.le_succ _) (exo_ok mine)
  have r2 := hb.rel (vs := [V.ref (hp.objs.size + 1)]) (us := [Value.ref (hp.objs.size + 1)]) (.cons rfl .nil) rz
  have lw : ws.length = ks.length := rz.length.symm.trans lz
  have cTy : (⟨hp, gs, dr, tk', os⟩ : Shared).TypeIs (.ref C) "type" := ⟨_, I1.kIn _ _ hC, rfl⟩
  have f1 := PySem.tc_lookup
  have f2 := PySem.tc_bind (.ref C)
  refine wpAny_call (codeAny_of_tree ?_)
  show wpAny _ _ (callAny (.ref C) ⟨[], ks.zip ws⟩) _ _ _
  have hC' := I1.kIn _ _ hC
  repeat (any_goals (first | assumption | with_reducible refine wpAny_loadPart_at hC' ?_ | wp_step))
  refine ⟨rfl, ?_⟩
  refine codeAny_call_builtin_at (Code.quiet_builtin _ (by decide +kernel)) PySem.entry_typeCall (kw_tc hC' (kw_call F.excBase_ValueError (fun Y => PySem.HandSPX.refsVE_contains Y bm hbm) hC' (PySem.W.looks_findIn I1.kIn iC) (fun self => PySem.W.bind_fn I1.kIn self tI) ?_))
  refine codeAny_mono (F1.run _ X.stack _ _ ⟨[Value.ref (hp.objs.size + 1)], ks.zip ws⟩ (g [Value.ref (hp.objs.size + 1)] ws) _ _ (fun _ _ _ => False) (hr.make C [] (ks.zip ws)) (I2.env0.make C [] (ks.zip ws)) (hb.to _ [Value.ref (hp.objs.size + 1)] ws I2.kIn rfl lw) r2 hq) fun r s' hq' => ?_
  cases r with
  | error er => exact hx pins σ _ _ er s' I2 hq'
  | ok fl =>
    cases fl with
    | ret u =>
      obtain ⟨v, H3, I3, rv, ev, q3⟩ := I2.after hq'
      subst ev
      exact ⟨rv, ⟨V.ref (hp.objs.size + 1), H3, I3, rfl, q3⟩⟩
    | next => exact False.elim hq'
    | brk => exact False.elim hq'
    | cont => exact False.elim hq'
end
/-- keywords of a def without defaults: one positional value (self), the others by name in the parameters' order -/
theorem kbn_self {K : PySem.W.Frag} {x qual : Str} {params : Arguments} {body : List Stmt} {scope : Scope} {f : Addr} {fd : FuncData} {ps ks : List Str} (F : FunD K x qual params body scope [] [] f fd)
    (h : ∀ (kV doc pm : Value) (an : Option Addr) (cdv ct : Value) (us ws : List Value), us.length = 1 → ws.length = ks.length → bindArgs (PySem.W.fnOf x qual params body scope .none kV doc pm an cdv ct) ⟨us, ks.zip ws⟩ = pure (ps.zip (us ++ ws))) :
    KBn K fd ps 1 ks (fun us ws => us ++ ws) (fun vs zs => vs ++ zs) := by
  obtain ⟨oc, od, dV, kV, doc, pm, an, cdv, ct, osl, rfl, lk, hcd, hD, hK⟩ := F.ex
  rcases hD with ⟨_, rfl⟩ | ⟨e, _⟩
  · exact ⟨fun s us ws X l1 l2 => .of_eq (h kV doc pm an cdv ct us ws l1 l2), fun r1 r2 => r1.append r2⟩
  · exact absurd rfl e
end Sl
/-! ## SlEq -/
set_option Elab.async false
set_option linter.all false
set_option maxRecDepth 100000
set_option maxHeartbeats 4000000
namespace Sl
open PySem PySem.Spec PyProof.Rows L2
/-- flat, or an object (then the very same one is meant) -/
def tame : V → Bool
  | .ref _ => true
  | v => flatB v
/-- xs != ys, two lists of the same tame items -/
def rNeS (K : PySem.W.Frag) : R2 := fun x y H Q => ∃ (a b : Addr) (xs : List V), x = .ref a ∧ y = .ref b ∧ SqL K H a xs ∧ SqL K H b xs ∧ (xs.all tame) = true ∧ Q (.bl false) H
theorem tame_same {A : Around} {s : Shared} {v : V} {u u' : Value} (r : RelV v u) (r' : RelV v u') (f : tame v = true) : SeqAt.EqAt A s u u' true := by
  cases v with
  | ref a =>
    cases (show u = Value.ref a from r)
    cases (show u' = Value.ref a from r')
    exact SeqAt.EqAt.same _
  | non => exact eqAt_same r r' rfl
  | bl b => exact eqAt_same r r' rfl
  | int i => exact eqAt_same r r' rfl
  | str z => exact eqAt_same r r' rfl
  | byt z => exact eqAt_same r r' rfl
  | flt z => cases f
  | ty z => cases f
theorem op_neS {X : Cx} (hu : X.A.units < cLine) : OpR X (compareOp .NotEq) (rNeS X.K) := by
  intro pins s σ H x y v u Q I rx ry h
  obtain ⟨a, b, xs, rfl, rfl, ha, hb, ht, q⟩ := h
  cases (show v = Value.ref a from rx)
  cases (show u = Value.ref b from ry)
  obtain ⟨us, r1, p1, _⟩ := I.list ha
  obtain ⟨ws, r2, p2, _⟩ := I.list hb
  have hsz : us.toArray.size = ws.toArray.size := by
    rw [List.size_toArray, List.size_toArray, ← r1.length, ← r2.length]
  have hall := List.all_eq_true.mp ht
  refine SeqAt.RcNeAt.lists (e := fun _ => true) p1.isList p2.isList hsz hu (fun j h1 h2 => ?_) X.prog X.w _ _ ?_
  · have j1 : j < xs.length := by
      rw [r1.length]
      simpa using h1
    obtain ⟨u1, e1, q1⟩ := r1.get (List.getElem?_eq_getElem j1)
    obtain ⟨u2, e2, q2⟩ := r2.get (List.getElem?_eq_getElem j1)
    have z := tame_same (A := X.A.in1) (s := s) q1 q2 (hall _ (List.getElem_mem j1))
    have k1 : us.toArray[j] = u1 := by
      have : us[j]? = some u1 := e1
      rw [List.getElem?_eq_getElem (by simpa using h1)] at this
      simpa using Option.some.inj this
    have k2 : ws.toArray[j] = u2 := by
      have : ws[j]? = some u2 := e2
      rw [List.getElem?_eq_getElem (by simpa using h2)] at this
      simpa using Option.some.inj this
    rw [k1, k2]
    exact z
  · rw [show ((List.range us.toArray.size).all fun _ => true) = true from List.all_eq_true.mpr fun _ _ => rfl]
    exact ⟨.bl false, H, I, rfl, q⟩
end Sl
/-! ## SlBits -/
set_option Elab.async false
set_option linter.all false
set_option maxRecDepth 100000
set_option maxHeartbeats 4000000
namespace Sl
open PySem PySem.Spec PyProof.Rows L2
theorem bits_bool {prog : Program} {w : World} {A : Around} {E : Value → Shared → Prop} {s : Shared} {b : Bool} {Q : Value → Shared → Prop} (h : Q (.int (if b then 1 else 0) s.toks) { s with toks := s.toks + 1 }) :
    wpAny (model prog w) A (call (.builtin "int.bit_length") [.bool b]) Q E s := by
  refine wpAny_call_entry PySem.F.slot_bool_bit_length (PySem.typeIs_bool s b) PyProof.Rows.entry_int_bit_length ?_ (PyProof.Rows.args_int_bit_length _)
  show wpAny _ _ (do ret (← mkInt (Builtin.Int.intBits (if b then 1 else 0)))) _ _ s
  refine wpAny_ret_mkInt ?_
  cases b
  · exact h
  · exact h
/-- x.bit_length() of an int, of a bool -/
def tBitsB (to : TE) : TE := fun σ H Q => to σ H fun x H1 => (∃ i, x = .int i ∧ Q (.int (Builtin.Int.intBits i : Nat)) H1) ∨ ∃ b, x = .bl b ∧ Q (.int (if b then 1 else 0)) H1
theorem pe_bitsB {X : Cx} {o : Expr} {to : TE} {apos pos : Pos} (ho : PE X o to) (hbase : attributeBase o "bit_length" X.env (eval o X.env) = eval o X.env := by rfl) (hline : (apos.endLine == pos.line) = true := by rfl) : PE X (.Call (.Attribute o "bit_length" apos) [] [] pos) (tBitsB to) := by
  refine ⟨fun pins s σ H Q I h => PySem.Call_method0 hbase hline (thn (ho.run pins s σ H _ I h) fun v s1 ⟨x, H1, I1, r1, q1⟩ => ?_)⟩
  rcases q1 with ⟨i, rfl, q1⟩ | ⟨b, rfl, q1⟩
  · obtain ⟨t, rfl⟩ := r1
    exact ⟨"int", _, PySem.F.plainAttrs_int, PyProof.Rows.slot_int_bit_length, PyProof.Rows.type_int_bit_length, typeIs_int _ _ _, (fun _ e => nomatch e), Calls.callWith_builtin rfl (PySem.evalArgs_none (call_int_bit_length ⟨.int _, H1, I1.tok _, ⟨_, rfl⟩, q1⟩))⟩
  · cases (show v = Value.bool b from r1)
    exact ⟨"bool", _, PySem.F.plainAttrs_bool, PySem.F.slot_bool_bit_length, PyProof.Rows.type_int_bit_length, PySem.typeIs_bool _ _, (fun _ e => nomatch e), Calls.callWith_builtin rfl (PySem.evalArgs_none (bits_bool ⟨.int _, H1, I1.tok _, ⟨_, rfl⟩, q1⟩))⟩
end Sl
/-! ## K21a -/
set_option Elab.async false
set_option linter.all false
set_option maxRecDepth 100000
set_option maxHeartbeats 4000000
namespace Lw
open PySem PySem.Spec PyProof.Rows L2 Sl
section
variable {P : Program} {w : World} {K : PySem.W.Frag} {mg : Str → Option Value} {base : Heap} {f : Addr} {fd : FuncData}
/-- what an error of these is made with -/
inductive Fld (H : Hp) : V → Prop where
  | non : Fld H .non
  | bl (b : Bool) : Fld H (.bl b)
  | int (i : Int) : Fld H (.int i)
  | str (x : Str) : Fld H (.str x)
  | lst {a : Addr} {xs : List V} (e : H a = some (.lst xs)) : Fld H (.ref a)
  | tup {a : Addr} {xs : List V} (e : H a = some (.tup xs)) : Fld H (.ref a)
  | dct {a : Addr} {kvs : List (Key × V)} (e : H a = some (.dK kvs)) : Fld H (.ref a)
theorem Fld.mono {H H' : Hp} {v : V} (h : Fld H v) (k : ∀ a o, H a = some o → (∃ xs, o = .lst xs) ∨ (∃ xs, o = .tup xs) ∨ (∃ kvs, o = .dK kvs) → H' a = some o) : Fld H' v := by
  cases h with
  | non => exact .non
  | bl b => exact .bl b
  | int i => exact .int i
  | str x => exact .str x
  | lst e => exact .lst (k _ _ e (.inl ⟨_, rfl⟩))
  | tup e => exact .tup (k _ _ e (.inr (.inl ⟨_, rfl⟩)))
  | dct e => exact .dct (k _ _ e (.inr (.inr ⟨_, rfl⟩)))
def sp_shown : Sp := fun vs H Q _ => ∃ v, vs = [v] ∧ Fld H v ∧ ∀ v', Q v' H
theorem ok_shown (F : FnP K "shown" s_shown [] f fd) (mI : mg "isinstance" = none) (mS : mg "str" = none) (mN : mg "int" = none) {t : Tok} (mB : mg "MOST_BITS" = some (.int 1000 t)) : FnOk P w K mg base CX0 1 f fd ["field"] sp_shown := by
  refine F.ok sc_shown (fun vs H Q E h => ?_) (fun cdv A outer s H vs Q E hr h => ?_)
  · obtain ⟨v, rfl, _⟩ := h
    rfl
  · obtain ⟨v, rfl, hv, k⟩ := h
    refine ⟨_, PSs.nox (pss_cons (ps_if (PW.pt (pw_or (pt_cmp (pc_isN (pv 0))) (pw_or1 (pt_val (pe_callB call_isi (by rfl) mI PyProof.Rows.Boot.«isinstance» (pa_cons (pv 0) (pa_cons (pe_bltn (v := .ty "str") (by rfl) mS PyProof.Rows.Boot.«str» rfl) pa_nil)))))))
        (pss_one (ps_ret (pv 0))) pss_nil)
      (pss_cons (ps_if (PW.pt (pw_and (pt_val (pe_callB call_isi (by rfl) mI PyProof.Rows.Boot.«isinstance» (pa_cons (pv 0) (pa_cons (pe_bltn (v := .ty "int") (by rfl) mN PyProof.Rows.Boot.«int» rfl) pa_nil)))) (pw_and1 (pt_cmpR op_le (pe_bitsB (pv 0)) (pe_glob (v := .int 1000) (by rfl) mB ⟨_, rfl⟩) (nomark _)))))
        (pss_one (ps_ret (pv 0))) pss_nil)
      (pss_one (ps_ret pe_str)))), ?_⟩
    cases hv with
    | non => exact ⟨_, rfl, _, rfl, iteT (iteT ⟨_, rfl, k _⟩)⟩
    | str x => exact ⟨_, rfl, _, rfl, iteF ⟨_, rfl, _, .ty "str", .type "str", .type "str", true, rfl, .ty _, .base (.str _), kit_ty (by decide +kernel), _, rfl, iteT ⟨_, rfl, k _⟩⟩⟩
    | bl b =>
      refine ⟨_, rfl, _, rfl, iteF ⟨_, rfl, _, .ty "str", .type "bool", .type "str", false, rfl, .ty _, .base (.bl _), kit_ty (by decide +kernel), _, rfl, iteF ?_⟩⟩
      refine ⟨_, rfl, _, .ty "int", .type "bool", .type "int", true, rfl, .ty _, .base (.bl _), kit_ty (by decide +kernel), _, rfl, iteT ?_⟩
      refine ⟨_, rfl, .inr ⟨_, rfl, _, _, rfl, rfl, _, rfl, ?_⟩⟩
      exact ite2 (fun _ => ⟨_, rfl, k _⟩) (fun _ => k _)
    | int i =>
      refine ⟨_, rfl, _, rfl, iteF ⟨_, rfl, _, .ty "str", .type "int", .type "str", false, rfl, .ty _, .base (.int _), kit_ty (by decide +kernel), _, rfl, iteF ?_⟩⟩
      refine ⟨_, rfl, _, .ty "int", .type "int", .type "int", true, rfl, .ty _, .base (.int _), kit_ty (by decide +kernel), _, rfl, iteT ?_⟩
      refine ⟨_, rfl, .inl ⟨_, rfl, _, _, rfl, rfl, _, rfl, ?_⟩⟩
      exact ite2 (fun _ => ⟨_, rfl, k _⟩) (fun _ => k _)
    | lst e =>
      refine ⟨_, rfl, _, rfl, iteF ⟨_, rfl, _, .ty "str", .type "list", .type "str", false, rfl, .ty _, .base (.lst e), kit_ty (by decide +kernel), _, rfl, iteF ?_⟩⟩
      exact ⟨_, rfl, _, .ty "int", .type "list", .type "int", false, rfl, .ty _, .base (.lst e), kit_ty (by decide +kernel), _, rfl, iteF (iteF (k _))⟩
    | tup e =>
      refine ⟨_, rfl, _, rfl, iteF ⟨_, rfl, _, .ty "str", .type "tuple", .type "str", false, rfl, .ty _, .base (.tup e), kit_ty (by decide +kernel), _, rfl, iteF ?_⟩⟩
      exact ⟨_, rfl, _, .ty "int", .type "tuple", .type "int", false, rfl, .ty _, .base (.tup e), kit_ty (by decide +kernel), _, rfl, iteF (iteF (k _))⟩
    | dct e =>
      refine ⟨_, rfl, _, rfl, iteF ⟨_, rfl, _, .ty "str", .type "dict", .type "str", false, rfl, .ty _, .base (.dK e), kit_ty (by decide +kernel), _, rfl, iteF ?_⟩⟩
      exact ⟨_, rfl, _, .ty "int", .type "dict", .type "int", false, rfl, .ty _, .base (.dK e), kit_ty (by decide +kernel), _, rfl, iteF (iteF (k _))⟩
end
end Lw
/-! ## K21b -/
set_option Elab.async false
set_option linter.all false
set_option maxRecDepth 100000
set_option maxHeartbeats 4000000
namespace Lw
open PySem PySem.Spec PyProof.Rows L2 Sl
/-! ### __init__ of the errors -/
def sp_lot (K : PySem.W.Frag) : Sp := fun vs H Q _ => ∃ (a C : Addr) (v : V), vs = [.ref a, v] ∧ OexC K C ∧ H a = some (exo a C none) ∧ Fld H v ∧ Q .non H
def sp_init (K : PySem.W.Frag) (fld : Str) : Sp := fun vs H Q _ => ∃ (a C : Addr) (v : V), vs = [.ref a, v] ∧ OexC K C ∧ PySem.W.findIn K (.ref C) fld = some none ∧ H a = some (exo a C none) ∧ Fld H v ∧
  ∀ dx, H dx = none → dx ≠ a → Q .non (upd (upd H dx (exd dx [(fld, v)])) a (exo a C (some dx)))
def sp_init0 (K : PySem.W.Frag) : Sp := fun vs H Q _ => ∃ (a : Addr), vs = [.ref a] ∧ Q .non H
abbrev FnM (K : PySem.W.Frag) (q : Str) (st : Stmt) (f : Addr) (fd : FuncData) : Prop := FunD K "__init__" q (defArgs st) (defBody st) (defScope st) [] [] f fd
section
variable {P : Program} {w : World} {K : PySem.W.Frag} {mg : Str → Option Value} {base : Heap} {f : Addr} {fd : FuncData}
theorem ok_lot (F : FnM K "LotError.__init__" s_LotError___init__ f fd) (S : Cal P w K mg base 1 "shown" [] sp_shown) (mV : mg "ValueError" = none)
    (vV : PySem.W.findCls K (.type "ValueError") (.type "type") "__init__" = some (.val (.builtin "ValueError.__init__"))) : FnOk P w K mg base CX0 2 f fd ["self", "field"] (sp_lot K) := by
  refine F.ok sc_LotError___init__ (fun vs H Q E h => ?_) (fun cdv A outer s H vs Q E hr h => ?_)
  · obtain ⟨a, C, v, rfl, _⟩ := h
    rfl
  · obtain ⟨a, C, v, rfl, T, ha, hv, k⟩ := h
    refine ⟨_, PSs.nox (pss_one (ps_expr (pe_veinit (by rfl) mV vV (pa_cons (pv 0) (pa_cons (pe_cal S hr (pa_cons (pv 1) pa_nil)) pa_nil))))), ?_⟩
    exact ⟨_, rfl, _, rfl, v, rfl, hv, fun v' => ⟨a, C, [v'], rfl, (by show 1 ≤ 1000; decide), T, ha, k⟩⟩
/-- the class LotError as it is read for its __init__ -/
structure LotC (P : Program) (w : World) (K : PySem.W.Frag) (mg : Str → Option Value) (base : Heap) (L : Addr) : Prop where
  g : mg "LotError" = some (.ref L)
  rd : ClX.CRead K L (.type "type")
  ex : ∃ (fL : Addr) (fdL : FuncData), PySem.W.findCls K (.ref L) (.type "type") "__init__" = some (.val (.ref fL)) ∧ PySem.W.keepIn K (.ref fL) = true ∧ FnOk P w K mg base CX0 2 fL fdL ["self", "field"] (sp_lot K) ∧ Binds K fdL ["self", "field"] []
/-- an error with one field -/
structure ErrF (P : Program) (w : World) (K : PySem.W.Frag) (mg : Str → Option Value) (base : Heap) (x fld : Str) (C : Addr) : Prop where
  g : mg x = some (.ref C)
  T : OexC K C
  R : ExR K C
  nf : PySem.W.findIn K (.ref C) fld = some none
  ex : ∃ (fI : Addr) (fdI : FuncData), PySem.W.findIn K (.ref C) "__init__" = some (some (.ref fI)) ∧ PySem.W.typeIn K (.ref fI) = some (.type "function") ∧ FnOk P w K mg base CX0 3 fI fdI ["self", fld] (sp_init K fld) ∧ Binds K fdI ["self", fld] [] ∧
    KBn K fdI ["self", fld] 1 [fld] (fun us ws => us ++ ws) (fun vs zs => vs ++ zs)
/-- an error without a field -/
structure Err0 (P : Program) (w : World) (K : PySem.W.Frag) (mg : Str → Option Value) (base : Heap) (x : Str) (C : Addr) : Prop where
  g : mg x = some (.ref C)
  T : OexC K C
  R : ExR K C
  ex : ∃ (fI : Addr) (fdI : FuncData), PySem.W.findIn K (.ref C) "__init__" = some (some (.ref fI)) ∧ PySem.W.typeIn K (.ref fI) = some (.type "function") ∧ FnOk P w K mg base CX0 1 fI fdI ["self"] (sp_init0 K) ∧ Binds K fdI ["self"] []
section
variable {X : Cx} {x fld : Str} {C : Addr} {e : Expr} {te : TE} {p pos kpos : Pos}
theorem pe_new (h : ErrF X.prog X.w X.K X.mg X.base x fld C) (hr : Room 4 X.A) (he : PE X e te) (hg : Gl X x := by rfl) (hdb : (x == ("__debug__" : Str)) = false := by decide)
    (hs : starEach [e] X.env = (false, eval e X.env) :: starEach [] X.env := by rfl) (hpl : (backTo pos (starEach [] X.env)).any (·.1) = false := by rfl) :
    PE X (.Call (.Name x p) [e] [] pos) (tExc C (sp_init X.K fld) [] (tCons te tNil)) := by
  obtain ⟨fI, fdI, iC, tI, F, b, _⟩ := h.ex
  exact pe_exc h.T iC tI F hr b .nil pass0 hg h.g (pa_cons he pa_nil hs) hdb hs hpl
theorem pe_newK (h : ErrF X.prog X.w X.K X.mg X.base x fld C) (hr : Room 4 X.A) (he : PE X e te) (hg : Gl X x := by rfl) (hdb : (x == ("__debug__" : Str)) = false := by decide)
    (hall : (backToKw pos (keywordEach [⟨some fld, e, kpos⟩] X.env)).all (·.1.isSome) = true := by rfl) (hks : (backToKw pos (keywordEach [⟨some fld, e, kpos⟩] X.env)).filterMap (·.1) = [fld] := by rfl)
    (hpl : ((backTo pos (starEach [] X.env)).any (·.1) || (backToKw pos (keywordEach [⟨some fld, e, kpos⟩] X.env)).any (·.1.isNone)) = false := by rfl) :
    PE X (.Call (.Name x p) [] [⟨some fld, e, kpos⟩] pos) (tExcK C 1 (sp_init X.K fld) (fun vs zs => vs ++ zs) (tCons te tNil)) := by
  obtain ⟨fI, fdI, iC, tI, F, _, kb⟩ := h.ex
  exact pe_excK (ks := [fld]) h.T iC tI F hr kb pass0 hg h.g (pk_cons he pk_nil) hall hks hdb hpl
theorem pe_new0 (h : Err0 X.prog X.w X.K X.mg X.base x C) (hr : Room 2 X.A) (hg : Gl X x := by rfl) (hdb : (x == ("__debug__" : Str)) = false := by decide) :
    PE X (.Call (.Name x p) [] [] pos) (tExc C (sp_init0 X.K) [] tNil) := by
  obtain ⟨fI, fdI, iC, tI, F, b⟩ := h.ex
  exact pe_exc0 h.T iC tI F hr b .nil pass0 hg h.g hdb
end
/-! ### the readings of these -/
/-- an error at e: its class, its field's name and its value -/
def ErrAt (H : Hp) (e : Addr) (C : Addr) (fld : Str) (v : V) : Prop := ∃ dx, H e = some (exo e C (some dx)) ∧ H dx = some (exd dx [(fld, v)])
theorem ErrAt.mono {H H' : Hp} {e C : Addr} {fld : Str} {v : V} (h : ErrAt H e C fld v) (k : Same H H') : ErrAt H' e C fld v := let ⟨dx, a, b⟩ := h; ⟨dx, k _ _ a, k _ _ b⟩
theorem ErrAt.exc {H : Hp} {e C : Addr} {fld : Str} {v : V} (h : ErrAt H e C fld v) : ExcAt H e C := let ⟨dx, a, b⟩ := h; .inr ⟨dx, _, a, b⟩
theorem Fld.same {H H' : Hp} {v : V} (h : Fld H v) (k : Same H H') : Fld H' v := h.mono fun a o e _ => k a o e
theorem same_new {H : Hp} {p : Addr} {o : HO} (hp : H p = none) : Same H (upd H p o) := fun b u e => by
  rw [upd_ne (ne_of_none e hp)]
  exact e
theorem Fld.upd {H : Hp} {v : V} {a : Addr} {o : HO} (h : Fld H v) (ha : H a = none) : Fld (L2.upd H a o) v := h.same (same_new ha)
/-- C(v): a new error -/
theorem made {H : Hp} {a dx C : Addr} {fld : Str} {v : V} {o : HO} (ha : H a = none) (hd : upd H a o dx = none) (ne : dx ≠ a) :
    Same H (upd (upd (upd H a o) dx (exd dx [(fld, v)])) a (exo a C (some dx))) ∧ ErrAt (upd (upd (upd H a o) dx (exd dx [(fld, v)])) a (exo a C (some dx))) a C fld v := by
  have hd' : H dx = none := by rwa [upd_ne ne] at hd
  refine ⟨fun b u e => ?_, dx, upd_same, ?_⟩
  · have n1 := ne_of_none e ha
    have n2 := ne_of_none e hd'
    rw [upd_ne n1, upd_ne n2, upd_ne n1]
    exact e
  · rw [upd_ne ne, upd_same]
/-- (C(x).f, C(f=x)) -/
theorem pair_of {K : PySem.W.Frag} {C : Addr} {fld : Str} {i : Nat} {σ : L2.St} {H : Hp} {x : V} {Q : VK} (T : OexC K C) (R : ExR K C) (nf : PySem.W.findIn K (.ref C) fld = some none) (hx : σ[i]? = some (some x)) (fx : Fld H x)
    (k : ∀ (t e : Addr) (H' : Hp), Same H H' → H' t = some (.tup [x, .ref e]) → ErrAt H' e C fld x → Q (.ref t) H') :
    tTup (tCons (tExF K fld (tExc C (sp_init K fld) [] (tCons (tVar i) tNil))) (tCons (tExcK C 1 (sp_init K fld) (fun vs zs => vs ++ zs) (tCons (tVar i) tNil)) tNil)) σ H Q := by
  refine ⟨x, hx, (by show 1 ≤ 1000; decide), fun a ha => ⟨a, C, x, rfl, T, nf, upd_same, fx.upd ha, fun dx hd ne => ⟨rfl, ?_⟩⟩⟩
  obtain ⟨s1, E1⟩ := made (H := H) (C := C) (fld := fld) (v := x) ha hd ne
  obtain ⟨dx1, ea, ed⟩ := E1
  refine ⟨a, C, dx1, _, x, rfl, ea, ed, R, nf, by rw [lookup_put, if_pos rfl], ?_⟩
  generalize hH1 : upd (upd (upd H a (exo a C none)) dx (exd dx [(fld, x)])) a (exo a C (some dx)) = H1 at s1
  refine ⟨x, hx, rfl, fun a2 ha2 => ⟨a2, C, x, rfl, T, nf, upd_same, (fx.same s1).upd ha2, fun dx2 hd2 ne2 => ⟨rfl, ?_⟩⟩⟩
  obtain ⟨s2, E2⟩ := made (H := H1) (C := C) (fld := fld) (v := x) ha2 hd2 ne2
  refine ⟨by show 2 ≤ sizeLine; decide, fun t ht => ?_⟩
  refine k t a2 _ ((s1.trans s2).trans (same_new ht)) upd_same (E2.mono (same_new ht))
/-- the pairs -/
def PairAt (H : Hp) (x : V) (t : Addr) (d : Addr × Str) : Prop := ∃ e, H t = some (.tup [x, .ref e]) ∧ ErrAt H e d.1 d.2 x
theorem PairAt.mono {H H' : Hp} {x : V} {t : Addr} {d : Addr × Str} (h : PairAt H x t d) (k : Same H H') : PairAt H' x t d := let ⟨e, a, b⟩ := h; ⟨e, k _ _ a, b.mono k⟩
def PairsAt (H : Hp) (x : V) (l : Addr) (ds : List (Addr × Str)) : Prop := ∃ ts : List Addr, H l = some (.lst (ts.map V.ref)) ∧ Paired (PairAt H x) ts ds
theorem paired_len {α β : Type} {R : α → β → Prop} : ∀ {xs : List α} {ys : List β}, Paired R xs ys → xs.length = ys.length
  | _, _, .nil => rfl
  | _, _, .cons _ t => congrArg Nat.succ (paired_len t)
theorem paired_app {α β : Type} {R : α → β → Prop} : ∀ {xs : List α} {ys : List β} {zs : List α} {ws : List β}, Paired R xs ys → Paired R zs ws → Paired R (xs ++ zs) (ys ++ ws)
  | _, _, _, _, .nil, q => q
  | _, _, _, _, .cons r t, q => .cons r (paired_app t q)
theorem paired_mono {α β : Type} {R S : α → β → Prop} (h : ∀ a b, R a b → S a b) : ∀ {xs : List α} {ys : List β}, Paired R xs ys → Paired S xs ys
  | _, _, .nil => .nil
  | _, _, .cons r t => .cons (h _ _ r) (paired_mono h t)
end
end Lw
/-! ## K21c -/
set_option Elab.async false
set_option linter.all false
set_option maxRecDepth 100000
set_option maxHeartbeats 4000000
namespace Lw
open PySem PySem.Spec PyProof.Rows L2 Sl
theorem ExcAt.mono {H H' : Hp} {a D : Addr} (h : ExcAt H a D) (k : Same H H') : ExcAt H' a D := by
  rcases h with h | ⟨dx, fs, h1, h2⟩
  · exact .inl (k _ _ h)
  · exact .inr ⟨dx, fs, k _ _ h1, k _ _ h2⟩
/-- the errors, by their names -/
structure Cls14 (K : PySem.W.Frag) (mg : Str → Option Value) (c : Nat → Addr) : Prop where
  g0 : mg "BadTable" = some (.ref (c 0))
  g1 : mg "BadStatement" = some (.ref (c 1))
  g2 : mg "BadForm" = some (.ref (c 2))
  g3 : mg "BadNumber" = some (.ref (c 3))
  g4 : mg "BadTrigger" = some (.ref (c 4))
  g5 : mg "BadBook" = some (.ref (c 5))
  g6 : mg "BadText" = some (.ref (c 6))
  g7 : mg "Overlap" = some (.ref (c 7))
  g8 : mg "Unknown" = some (.ref (c 8))
  g9 : mg "BadPicks" = some (.ref (c 9))
  g10 : mg "Refused" = some (.ref (c 10))
  g11 : mg "BadClass" = some (.ref (c 11))
  g12 : mg "Endless" = some (.ref (c 12))
  g13 : mg "NoDeed" = some (.ref (c 13))
def sp_kinds (K : PySem.W.Frag) (c : Nat → Addr) : Sp := fun vs H Q _ => ∃ (e D : Addr) (b : Nat → Bool), vs = [.ref e] ∧ ExcAt H e D ∧ ExR K D ∧ (∀ j, j < 14 → PySem.W.kitOne K (.ref D) (.ref (c j)) = some (b j)) ∧
  ∀ (p : Addr) (H' : Hp), H p = none → Same H H' → H' p = some (.lst ((List.range 14).map fun j => V.bl (b j))) → Q (.ref p) H'
/-- isinstance(e, C), e in slot 0 -/
theorem isx_of {K : PySem.W.Frag} {σ : L2.St} {H : Hp} {e D C : Addr} {b : Bool} {Q : VK} (he : σ[0]? = some (some (.ref e))) (hE : ExcAt H e D) (R : ExR K D) (hk : PySem.W.kitOne K (.ref D) (.ref C) = some b) (q : Q (.bl b) H) :
    tCB (rIsX K) (tCons (tVar 0) (tCons (tC (.ref C)) tNil)) σ H Q := ⟨.ref e, he, e, D, .ref C, .ref C, b, rfl, hE, R, .own _, hk, q⟩
section
variable {P : Program} {w : World} {K : PySem.W.Frag} {mg : Str → Option Value} {base : Heap} {f : Addr} {fd : FuncData} {c : Nat → Addr}
theorem ok_kinds (F : FnP K "_law_kinds" s_l_kinds [] f fd) (C : Cls14 K mg c) (mI : mg "isinstance" = none) : FnOk P w K mg base CX0 1 f fd ["_law_e"] (sp_kinds K c) := by
  refine F.ok sc_l_kinds (fun vs H Q E h => ?_) (fun cdv A outer s H vs Q E hr h => ?_)
  · obtain ⟨e, D, b, rfl, _⟩ := h
    rfl
  · obtain ⟨e, D, b, rfl, hE, R, hk, k⟩ := h
    have nd := sc_l_kinds.nd
    have is : ∀ {X : Cx} {x : Str} {C : Addr} {p0 p1 p2 pos : Pos}, X.N = (["_law_e", "_law_found"] : List Str) → X.mg "isinstance" = none → X.mg x = some (.ref C) → Gl X x → Gl X "isinstance" → Vis X.env.scope "_law_e" → (x == ("__debug__" : Str)) = false →
        starEach [Expr.Name "_law_e" p1, Expr.Name x p2] X.env = (false, eval (Expr.Name "_law_e" p1) X.env) :: starEach [Expr.Name x p2] X.env → (backTo pos (starEach [Expr.Name x p2] X.env)).any (·.1) = false →
        starEach [Expr.Name x p2] X.env = (false, eval (Expr.Name x p2) X.env) :: starEach [] X.env →
        PE X (.Call (.Name "isinstance" p0) [.Name "_law_e" p1, .Name x p2] [] pos) (tCB (rIsX X.K) (tCons (tVar 0) (tCons (tC (.ref C)) tNil))) := by
      intro X x C p0 p1 p2 pos hN m1 m2 hg hgi hv hd h1 h2 h3
      exact pe_callB call_isx hgi m1 PyProof.Rows.Boot.«isinstance» (pa_cons (pe_var (by rw [hN]; rfl) hv) (pa_cons (pe_glob (v := .ref C) hg m2 rfl hd) pa_nil h3) h1) (by decide) (by decide) h1 h2
    refine ⟨_, PSs.nox (pss_cons (ps_set (i := 1) nd rfl (.inl rfl) (pe_lst (pa_cons (is rfl mI C.g0 rfl rfl (.inl rfl) (by decide) rfl rfl rfl) (pa_cons (is rfl mI C.g1 rfl rfl (.inl rfl) (by decide) rfl rfl rfl) (pa_cons (is rfl mI C.g2 rfl rfl (.inl rfl) (by decide) rfl rfl rfl) (pa_cons (is rfl mI C.g3 rfl rfl (.inl rfl) (by decide) rfl rfl rfl) pa_nil))))))
      (pss_cons (ps_set (i := 1) nd rfl (.inl rfl) (pe_op op_cat (pv 1) (pe_lst (pa_cons (is rfl mI C.g4 rfl rfl (.inl rfl) (by decide) rfl rfl rfl) (pa_cons (is rfl mI C.g5 rfl rfl (.inl rfl) (by decide) rfl rfl rfl) (pa_cons (is rfl mI C.g6 rfl rfl (.inl rfl) (by decide) rfl rfl rfl) (pa_cons (is rfl mI C.g7 rfl rfl (.inl rfl) (by decide) rfl rfl rfl) pa_nil)))))))
      (pss_cons (ps_set (i := 1) nd rfl (.inl rfl) (pe_op op_cat (pv 1) (pe_lst (pa_cons (is rfl mI C.g8 rfl rfl (.inl rfl) (by decide) rfl rfl rfl) (pa_cons (is rfl mI C.g9 rfl rfl (.inl rfl) (by decide) rfl rfl rfl) (pa_cons (is rfl mI C.g10 rfl rfl (.inl rfl) (by decide) rfl rfl rfl) (pa_cons (is rfl mI C.g11 rfl rfl (.inl rfl) (by decide) rfl rfl rfl) pa_nil)))))))
      (pss_one (ps_ret (pe_op op_cat (pv 1) (pe_lst (pa_cons (is rfl mI C.g12 rfl rfl (.inl rfl) (by decide) rfl rfl rfl) (pa_cons (is rfl mI C.g13 rfl rfl (.inl rfl) (by decide) rfl rfl rfl) pa_nil))))))))), ?_⟩
    refine isx_of rfl hE R (hk 0 (by decide)) (isx_of rfl hE R (hk 1 (by decide)) (isx_of rfl hE R (hk 2 (by decide)) (isx_of rfl hE R (hk 3 (by decide)) ⟨(by show 4 ≤ sizeLine; decide), fun p1 h1 => ?_⟩)))
    have s1 := same_new (o := .lst [.bl (b 0), .bl (b 1), .bl (b 2), .bl (b 3)]) h1
    have e1 : (upd H p1 (.lst [.bl (b 0), .bl (b 1), .bl (b 2), .bl (b 3)])) p1 = some (.lst [.bl (b 0), .bl (b 1), .bl (b 2), .bl (b 3)]) := upd_same
    generalize hH1 : upd H p1 (.lst [.bl (b 0), .bl (b 1), .bl (b 2), .bl (b 3)]) = H1 at s1 e1
    have E1 := ExcAt.mono hE s1
    refine ⟨_, rfl, isx_of rfl E1 R (hk 4 (by decide)) (isx_of rfl E1 R (hk 5 (by decide)) (isx_of rfl E1 R (hk 6 (by decide)) (isx_of rfl E1 R (hk 7 (by decide)) ⟨(by show 4 ≤ sizeLine; decide), fun p2 h2 => ?_⟩)))⟩
    refine ⟨p1, p2, _, _, rfl, rfl, same_new h2 _ _ e1, upd_same, (by show 4 + 4 ≤ sizeLine; decide), fun p3 h3 => ?_⟩
    have s2 := s1.trans ((same_new h2).trans (same_new (o := .lst ([.bl (b 0), .bl (b 1), .bl (b 2), .bl (b 3)] ++ [.bl (b 4), .bl (b 5), .bl (b 6), .bl (b 7)])) h3))
    generalize hH2 : upd (upd H1 p2 _) p3 (.lst ([.bl (b 0), .bl (b 1), .bl (b 2), .bl (b 3)] ++ [.bl (b 4), .bl (b 5), .bl (b 6), .bl (b 7)])) = H2 at s2
    have e2 : H2 p3 = some (.lst ([.bl (b 0), .bl (b 1), .bl (b 2), .bl (b 3)] ++ [.bl (b 4), .bl (b 5), .bl (b 6), .bl (b 7)])) := by rw [← hH2]; exact upd_same
    have E2 := ExcAt.mono hE s2
    refine ⟨_, rfl, isx_of rfl E2 R (hk 8 (by decide)) (isx_of rfl E2 R (hk 9 (by decide)) (isx_of rfl E2 R (hk 10 (by decide)) (isx_of rfl E2 R (hk 11 (by decide)) ⟨(by show 4 ≤ sizeLine; decide), fun p4 h4 => ?_⟩)))⟩
    refine ⟨p3, p4, _, _, rfl, rfl, same_new h4 _ _ e2, upd_same, (by show 8 + 4 ≤ sizeLine; decide), fun p5 h5 => ?_⟩
    have s3 := s2.trans ((same_new h4).trans (same_new (o := .lst ([.bl (b 0), .bl (b 1), .bl (b 2), .bl (b 3)] ++ [.bl (b 4), .bl (b 5), .bl (b 6), .bl (b 7)] ++ [.bl (b 8), .bl (b 9), .bl (b 10), .bl (b 11)])) h5))
    generalize hH3 : upd (upd H2 p4 _) p5 (.lst ([.bl (b 0), .bl (b 1), .bl (b 2), .bl (b 3)] ++ [.bl (b 4), .bl (b 5), .bl (b 6), .bl (b 7)] ++ [.bl (b 8), .bl (b 9), .bl (b 10), .bl (b 11)])) = H3 at s3
    have e3 : H3 p5 = some (.lst ([.bl (b 0), .bl (b 1), .bl (b 2), .bl (b 3)] ++ [.bl (b 4), .bl (b 5), .bl (b 6), .bl (b 7)] ++ [.bl (b 8), .bl (b 9), .bl (b 10), .bl (b 11)])) := by rw [← hH3]; exact upd_same
    have E3 := ExcAt.mono hE s3
    refine ⟨_, rfl, isx_of rfl E3 R (hk 12 (by decide)) (isx_of rfl E3 R (hk 13 (by decide)) ⟨(by show 2 ≤ sizeLine; decide), fun p6 h6 => ?_⟩)⟩
    refine ⟨p5, p6, _, _, rfl, rfl, same_new h6 _ _ e3, upd_same, (by show 12 + 2 ≤ sizeLine; decide), fun p7 h7 => ?_⟩
    exact k p7 _ ((s3.trans (same_new h6)).free h7) (s3.trans ((same_new h6).trans (same_new h7))) upd_same
end
end Lw
/-! ## K21d -/
set_option Elab.async false
set_option linter.all false
set_option maxRecDepth 100000
set_option maxHeartbeats 4000000
namespace Lw
open PySem PySem.Spec PyProof.Rows L2 Sl
def CPowB (i j : Int) : Prop := 0 ≤ j ∧ (Builtin.Int.intBits i : Int) * j ≤ 2 ^ 27
theorem op_powB {X : Cx} : OpR X (binaryOp .Pow) (rI CPowB fun i j => .int (i ^ j.toNat)) := opI fun _ _ _ _ _ _ _ hc q => pow_int hc.1 hc.2 q
section
variable {K : PySem.W.Frag} {σ : L2.St} {H : Hp} {x : V} {Q : VK}
abbrev tPair (K : PySem.W.Frag) (C : Addr) (fld : Str) (i : Nat) : TE :=
  tTup (tCons (tExF K fld (tExc C (sp_init K fld) [] (tCons (tVar i) tNil))) (tCons (tExcK C 1 (sp_init K fld) (fun vs zs => vs ++ zs) (tCons (tVar i) tNil)) tNil))
structure ErrK (K : PySem.W.Frag) (d : Addr × Str) : Prop where
  T : OexC K d.1
  R : ExR K d.1
  nf : PySem.W.findIn K (.ref d.1) d.2 = some none
theorem two_of {i : Nat} {d1 d2 : Addr × Str} (E1 : ErrK K d1) (E2 : ErrK K d2) (hx : σ[i]? = some (some x)) (fx : Fld H x) (k : ∀ (l : Addr) (H' : Hp), Same H H' → PairsAt H' x l [d1, d2] → Q (.ref l) H') :
    tLst (tCons (tPair K d1.1 d1.2 i) (tCons (tPair K d2.1 d2.2 i) tNil)) σ H Q := by
  unfold tLst
  unfold tCons
  refine pair_of E1.T E1.R E1.nf hx fx fun t1 e1 H1 s1 a1 b1 => ?_
  refine pair_of E2.T E2.R E2.nf hx (fx.same s1) fun t2 e2 H2 s2 a2 b2 => ?_
  refine ⟨(by show 2 ≤ sizeLine; decide), fun p hp => k p _ ((s1.trans s2).trans (same_new hp)) ⟨[t1, t2], upd_same, .cons ⟨e1, same_new hp _ _ (s2 _ _ a1), (b1.mono s2).mono (same_new hp)⟩ (.cons ⟨e2, same_new hp _ _ a2, b2.mono (same_new hp)⟩ .nil)⟩⟩
theorem PairsAt.mono {H' : Hp} {l : Addr} {ds : List (Addr × Str)} (h : PairsAt H x l ds) (k : Same H H') : PairsAt H' x l ds := let ⟨ts, a, b⟩ := h; ⟨ts, k _ _ a, paired_mono (fun _ _ q => q.mono k) b⟩
theorem more_of {i j : Nat} {l : Addr} {ds : List (Addr × Str)} {d1 d2 : Addr × Str} (E1 : ErrK K d1) (E2 : ErrK K d2) (hl : σ[j]? = some (some (.ref l))) (hx : σ[i]? = some (some x)) (fx : Fld H x) (P : PairsAt H x l ds) (hd : ds.length ≤ 100)
    (k : ∀ (l' : Addr) (H' : Hp), Same H H' → PairsAt H' x l' (ds ++ [d1, d2]) → Q (.ref l') H') :
    tOp rCat (tVar j) (tLst (tCons (tPair K d1.1 d1.2 i) (tCons (tPair K d2.1 d2.2 i) tNil))) σ H Q :=
  ⟨_, hl, two_of E1 E2 hx fx fun l2 H1 s1 ⟨ts2, a2, b2⟩ => by
    obtain ⟨ts, a, b⟩ := P.mono s1
    have e1 := paired_len b
    have e2 := paired_len b2
    refine ⟨l, l2, _, _, rfl, rfl, a, a2, ?_, fun p hp => k p _ (s1.trans (same_new hp)) ⟨ts ++ ts2, ?_, ?_⟩⟩
    · rw [List.length_map, List.length_map, e1, e2, sizeLine_eq]
      show ds.length + 2 ≤ _
      omega
    · rw [upd_same, List.map_append]
    · exact paired_mono (fun _ _ q => q.mono (same_new hp)) (paired_app b b2)⟩
theorem yes_of {σ : L2.St} {H : Hp} {Q : Bool → Hp → Prop} (h : Q true H) : tYes σ H Q := h
/-- [t[j] for t in xs], the items tuples -/
theorem lc_pick {l : Addr} {xs ws : List V} {i m j : Nat} (hl : σ[i]? = some (some (.ref l))) (hx : H l = some (.lst xs)) (hz : xs.length = ws.length) (hs : xs.length ≤ 1000) (him : i ≠ m) (hm : m < σ.length) (h : ∀ (n : Nat) (y : V), xs[n]? = some y → ∃ (t : Addr) (ys : List V) (v : V), y = .ref t ∧ H t = some (.tup ys) ∧ ys[j]? = some v ∧ ws[n]? = some v)
    (k : ∀ (D : Addr) (H' : Hp), H D = none → Same H H' → H' D = some (.lst ws) → Q (.ref D) H') :
    tLc (iList K (tVar i)) (gName m) tYes (tOp (rIxT K) (tVar m) (tC (.int (j : Int)))) [m] σ H Q := by
  refine ⟨_, hl, l, rfl, ⟨_, SqL.of hx⟩, fun D hD => lc_list (xs := xs) (fun n H' => Same H H' ∧ H' D = some (.lst (ws.take n))) ⟨same_new hD, upd_same⟩ (fun n H' _ ⟨s, _⟩ => SqL.of (s _ _ hx)) ?_ ?_⟩
  · intro n y H' hy ⟨s, hd⟩
    obtain ⟨t, ys, v, rfl, ht, hv, hw⟩ := h n y hy
    refine ⟨?_, ?_⟩
    · show ((σ.set m none).set m (some (V.ref t))).set m none = σ.set m none
      rw [List.set_set, List.set_set]
    refine yes_of ?_
    refine iteT ?_
    refine ⟨.ref t, ?_, t, ys, (j : Int), v, rfl, rfl, SqT.of (s _ _ ht), atI_nat hv, ws.take n, hd, ?_, ?_⟩
    · show ((wipe σ [m]).set m (some (V.ref t)))[m]? = some (some (V.ref t))
      rw [List.getElem?_set_self (by rw [wipe_length]; exact hm)]
    · rw [sizeLine_eq, List.length_take]
      omega
    · have hn : D ≠ l := fun e => by rw [e, hx] at hD; cases hD
      refine ⟨fun b o e => ?_, ?_⟩
      · rw [upd_ne (ne_of_none e hD)]
        exact s b o e
      · rw [upd_same]
        have hlt : n < ws.length := (List.getElem?_eq_some_iff.mp hw).1
        have hv' : ws[n] = v := by
          have := hw
          rw [List.getElem?_eq_getElem hlt] at this
          exact Option.some.inj this
        rw [List.take_succ_eq_append_getElem hlt, hv']
  · intro H' ⟨s, hd⟩
    rw [hz, List.take_length] at hd
    exact k D H' hD s hd
theorem errs_of : ∀ {ts : List Addr} {ds : List (Addr × Str)}, Paired (PairAt H x) ts ds → ∃ es : List Addr, Paired (fun t e => H t = some (.tup [x, .ref e])) ts es ∧ Paired (fun e d => ErrAt H e d.1 d.2 x) es ds
  | _, _, .nil => ⟨[], .nil, .nil⟩
  | _, _, .cons ⟨e, a, b⟩ q => let ⟨es, h1, h2⟩ := errs_of q; ⟨e :: es, .cons a h1, .cons b h2⟩
theorem paired_get {α β : Type} {R : α → β → Prop} : ∀ {xs : List α} {ys : List β} {n : Nat} {a : α}, Paired R xs ys → xs[n]? = some a → ∃ b, ys[n]? = some b ∧ R a b
  | _, _, 0, _, .cons r _, e => ⟨_, rfl, by simp at e; rw [← e]; exact r⟩
  | _, _, n + 1, _, .cons _ t, e => let ⟨b, h1, h2⟩ := paired_get (n := n) t (by simpa using e); ⟨b, by simpa using h1, h2⟩
end
end Lw
/-! ## K21e -/
set_option Elab.async false
set_option linter.all false
set_option maxRecDepth 100000
set_option maxHeartbeats 8000000
namespace Lw
open PySem PySem.Spec PyProof.Rows L2 Sl
def fldN : Nat → Str
  | 0 => "name" | 1 => "kind" | 2 => "word" | 3 => "number" | 4 => "place" | 5 => "place" | 6 => "line" | 7 => "kind" | 8 => "name" | 9 => "kind" | 10 => "name" | _ => "index"
def dsN (c : Nat → Addr) : List (Addr × Str) := [(c 0, "name"), (c 1, "kind"), (c 2, "word"), (c 3, "number"), (c 4, "place"), (c 5, "place"), (c 6, "line"), (c 7, "kind"), (c 8, "name"), (c 9, "kind"), (c 10, "name"), (c 11, "index")]
/-- what the law asks of the top -/
structure Top21 (P : Program) (w : World) (K : PySem.W.Frag) (mg : Str → Option Value) (base : Heap) (c : Nat → Addr) (L : Addr) : Prop where
  src : Cal P w K mg base 1 "_law_source" [] (sp_source K)
  pick : Cal P w K mg base 2 "_law_pick" [] (sp_pick K)
  kinds : Cal P w K mg base 1 "_law_kinds" [] (sp_kinds K c)
  e0 : ErrF P w K mg base "BadTable" "name" (c 0)
  e1 : ErrF P w K mg base "BadStatement" "kind" (c 1)
  e2 : ErrF P w K mg base "BadForm" "word" (c 2)
  e3 : ErrF P w K mg base "BadNumber" "number" (c 3)
  e4 : ErrF P w K mg base "BadTrigger" "place" (c 4)
  e5 : ErrF P w K mg base "BadBook" "place" (c 5)
  e6 : ErrF P w K mg base "BadText" "line" (c 6)
  e7 : ErrF P w K mg base "Overlap" "kind" (c 7)
  e8 : ErrF P w K mg base "Unknown" "name" (c 8)
  e9 : ErrF P w K mg base "BadPicks" "kind" (c 9)
  e10 : ErrF P w K mg base "Refused" "name" (c 10)
  e11 : ErrF P w K mg base "BadClass" "index" (c 11)
  e12 : Err0 P w K mg base "Endless" (c 12)
  e13 : Err0 P w K mg base "NoDeed" (c 13)
  lg : mg "LotError" = some (.ref L)
  lT : OexC K L
  lR : ExR K L
  lex : ∃ (fI : Addr) (fdI : FuncData), PySem.W.findIn K (.ref L) "__init__" = some (some (.ref fI)) ∧ PySem.W.typeIn K (.ref fI) = some (.type "function") ∧ FnOk P w K mg base CX0 2 fI fdI ["self", "field"] (sp_lot K) ∧ Binds K fdI ["self", "field"] []
  kM : ∀ i j, i < 14 → j < 14 → PySem.W.kitOne K (.ref (c i)) (.ref (c j)) = some (decide (i = j))
  kL : ∀ i, i < 14 → PySem.W.kitOne K (.ref (c i)) (.ref L) = some true
  kV : ∀ i, i < 14 → PySem.W.kitOne K (.ref (c i)) (.type "ValueError") = some true
  lM : ∀ j, j < 14 → PySem.W.kitOne K (.ref L) (.ref (c j)) = some false
  lV : PySem.W.kitOne K (.ref L) (.type "ValueError") = some true
  mI : mg "isinstance" = none
  mLen : mg "len" = none
  mR : mg "range" = none
  mA : mg "any" = none
  mV : mg "ValueError" = none
section
variable {P : Program} {w : World} {K : PySem.W.Frag} {mg : Str → Option Value} {base : Heap} {f : Addr} {fd : FuncData} {c : Nat → Addr} {L : Addr}
theorem ErrF.k {x fld : Str} {C : Addr} (h : ErrF P w K mg base x fld C) : ErrK K (C, fld) := ⟨h.T, h.R, h.nf⟩
def sp_law (K : PySem.W.Frag) : Sp := fun vs H Q _ => ∃ (a : Addr) (ns : List Int), vs = [.ref a] ∧ SqL K H a (ns.map V.int) ∧ ns.length ≤ 63 ∧ ∀ H', Q (.bl true) H'
/-- e.f, e at the place i of the list in slot 4 -/
theorem fld_of {σ : L2.St} {H : Hp} {l : Addr} {es : List V} {e C : Addr} {fld : Str} {x : V} {i : Nat} {Q : VK} (R : ExR K C) (nf : PySem.W.findIn K (.ref C) fld = some none) (hl : σ[4]? = some (some (.ref l))) (h : H l = some (.lst es)) (hi : es[i]? = some (.ref e)) (E : ErrAt H e C fld x) (q : Q x H) :
    tExF K fld (tOp (rIxL K) (tVar 4) (tC (.int (i : Int)))) σ H Q := by
  obtain ⟨dx, ea, ed⟩ := E
  exact ⟨_, hl, l, es, (i : Int), _, rfl, rfl, SqL.of h, atI_nat hi, e, C, dx, _, x, rfl, ea, ed, R, nf, by rw [lookup_put, if_pos rfl], q⟩
end
end Lw
/-! ## K21f -/
set_option Elab.async false
set_option linter.all false
set_option maxRecDepth 100000
set_option maxHeartbeats 8000000
namespace Lw
open PySem PySem.Spec PyProof.Rows L2 Sl
section
variable {P : Program} {w : World} {K : PySem.W.Frag} {mg : Str → Option Value} {base : Heap} {f : Addr} {fd : FuncData} {c : Nat → Addr} {L : Addr}
abbrev lawN : List Str := ["_law_script", "_law_source_here", "_law_x", "_law_pairs", "_law_errors", "_law_fields", "_law_k", "_law_base", "_law_pair", "_law_j"]
theorem lt14 {i : Nat} (h : i < 14) : i = 0 ∨ i = 1 ∨ i = 2 ∨ i = 3 ∨ i = 4 ∨ i = 5 ∨ i = 6 ∨ i = 7 ∨ i = 8 ∨ i = 9 ∨ i = 10 ∨ i = 11 ∨ i = 12 ∨ i = 13 := by omega
theorem Top21.R (T : Top21 P w K mg base c L) : ∀ i, i < 14 → ExR K (c i) := fun i hi => by
  rcases lt14 hi with h | h | h | h | h | h | h | h | h | h | h | h | h | h <;> subst h
  · exact T.e0.R
  · exact T.e1.R
  · exact T.e2.R
  · exact T.e3.R
  · exact T.e4.R
  · exact T.e5.R
  · exact T.e6.R
  · exact T.e7.R
  · exact T.e8.R
  · exact T.e9.R
  · exact T.e10.R
  · exact T.e11.R
  · exact T.e12.R
  · exact T.e13.R
/-- isinstance(errors[k], C) -/
theorem isk_of {σ : L2.St} {H : Hp} {l e D : Addr} {ev : List V} {i : Nat} {b : Bool} {cv : V} {cu : Value} {Q : VK} (h4 : σ[4]? = some (some (.ref l))) (h6 : σ[6]? = some (some (.int (i : Int)))) (hl : H l = some (.lst ev)) (hi : ev[i]? = some (.ref e)) (hE : ExcAt H e D) (R : ExR K D)
    (hc : ClsV cv cu) (hk : PySem.W.kitOne K (.ref D) cu = some b) (q : Q (.bl b) H) : tCB (rIsX K) (tCons (tOp (rIxL K) (tVar 4) (tVar 6)) (tCons (tC cv) tNil)) σ H Q :=
  ⟨_, h4, _, h6, l, ev, (i : Int), _, rfl, rfl, SqL.of hl, atI_nat hi, e, D, cv, cu, b, rfl, hE, R, hc, hk, q⟩
theorem Fld.tame {H : Hp} {v : V} (h : Fld H v) : Sl.tame v = true := by
  cases h <;> rfl
theorem dec_ij (i n : Nat) : decide (V.int (i : Int) = V.int ((0 : Int) + (n : Int))) = decide (i = n) := by
  by_cases h : i = n
  · subst h
    rw [Int.zero_add]
    simp
  · rw [decide_eq_false h]
    refine decide_eq_false fun e => h ?_
    have := V.int.inj e
    omega
theorem paired_cons {α β : Type} {R : α → β → Prop} : ∀ {xs : List α} {b : β} {ys : List β}, Paired R xs (b :: ys) → ∃ a xs', xs = a :: xs' ∧ R a b ∧ Paired R xs' ys
  | _, _, _, .cons r t => ⟨_, _, rfl, r, t⟩
theorem paired_nil {α β : Type} {R : α → β → Prop} : ∀ {xs : List α}, Paired R xs ([] : List β) → xs = []
  | _, .nil => rfl
theorem asg_of {te : TE} {i : Nat} {D : Ends} {σ : L2.St} {H : Hp} {u : TS} (h : te σ H fun x H1 => u D (σ.set i (some x)) H1) : tSeq (tAsg te (gName i)) u D σ H := h
theorem ifs_of {c : TT} {t u v : TS} {D : Ends} {σ : L2.St} {H : Hp} (h : c σ H fun b H1 => if b = true then t { D with nx := v D } σ H1 else u { D with nx := v D } σ H1) : tSeq (tIfS c t u) v D σ H := h
theorem or_of {A B : TT} {σ : L2.St} {H : Hp} {Q : Bool → Hp → Prop} (h : A σ H fun c H1 => if c = true then Q true H1 else B σ H1 Q) : tOr A B σ H Q := h
theorem test_of {r : R2} {ta tb : TE} {σ : L2.St} {H : Hp} {Q : Bool → Hp → Prop} (h : ta σ H fun x H1 => tb σ H1 fun y H2 => r x y H2 fun x H' => ∃ k, x = .bl k ∧ Q k H') : tTest (tOp r ta tb) σ H Q := h
theorem nx_of {v : TS} {D D' : Ends} {σ : L2.St} {H : Hp} (h : v D σ H) : tNext { D' with nx := v D } σ H := h
theorem seq_of {t u : TS} {D : Ends} {σ : L2.St} {H : Hp} (h : t { D with nx := u D } σ H) : tSeq t u D σ H := h
theorem ok_law (F : FnP K "law" s_law [] f fd) (T : Top21 P w K mg base c L) : FnOk P w K mg base CX0 5 f fd ["_law_script"] (sp_law K) := by
  refine F.ok sc_law (fun vs H Q E h => ?_) (fun cdv A outer s H vs Q E hr h => ?_)
  · obtain ⟨a, ns, rfl, _⟩ := h
    rfl
  · obtain ⟨a, ns, rfl, hS, hlen, k⟩ := h
    have nd := sc_law.nd
    have hu := hu_of hr
    obtain ⟨fL, fdL, iL, tL, FL, bL⟩ := T.lex
    have hr1 : Room 1 (A.deeper (envOfC "law" (defScope s_law) s.heap.objs.size f cdv)) := hr.mono (by decide)
    have hr2 : Room 2 (A.deeper (envOfC "law" (defScope s_law) s.heap.objs.size f cdv)) := hr.mono (by decide)
    have hr3 : Room 3 (A.deeper (envOfC "law" (defScope s_law) s.heap.objs.size f cdv)) := hr.mono (by decide)
    refine ⟨_, PSs.nox (pss_cons (ps_set (i := 1) nd rfl (.inl rfl) (pe_cal T.src hr1 (pa_cons (pv 0) pa_nil)))
      (pss_cons (ps_set (i := 2) nd rfl (.inl rfl) (pe_cal T.pick hr2 (pa_cons (pv 1) (pa_cons (pe_lst (pa_cons pe_non (pa_cons pe_int (pa_cons pe_str (pa_cons (pe_tup (pa_cons pe_str (pa_cons pe_int pa_nil))) (pa_cons (pe_lst (pa_cons pe_str pa_nil)) (pa_cons pe_dnewK (pa_cons (pe_op op_powB (pe_op op_powB (pe_op op_powB pe_int pe_int) pe_int) pe_int) (pa_cons pe_bl pa_nil))))))))) pa_nil))))
      (pss_cons (ps_set (i := 3) nd rfl (.inl rfl) (pe_lst (pa_cons (pe_tup (pa_cons (pe_exf (pe_new T.e0 hr (pv 2))) (pa_cons (pe_newK T.e0 hr (pv 2)) pa_nil))) (pa_cons (pe_tup (pa_cons (pe_exf (pe_new T.e1 hr (pv 2))) (pa_cons (pe_newK T.e1 hr (pv 2)) pa_nil))) pa_nil))))
      (pss_cons (ps_set (i := 3) nd rfl (.inl rfl) (pe_op op_cat (pv 3) (pe_lst (pa_cons (pe_tup (pa_cons (pe_exf (pe_new T.e2 hr (pv 2))) (pa_cons (pe_newK T.e2 hr (pv 2)) pa_nil))) (pa_cons (pe_tup (pa_cons (pe_exf (pe_new T.e3 hr (pv 2))) (pa_cons (pe_newK T.e3 hr (pv 2)) pa_nil))) pa_nil)))))
      (pss_cons (ps_set (i := 3) nd rfl (.inl rfl) (pe_op op_cat (pv 3) (pe_lst (pa_cons (pe_tup (pa_cons (pe_exf (pe_new T.e4 hr (pv 2))) (pa_cons (pe_newK T.e4 hr (pv 2)) pa_nil))) (pa_cons (pe_tup (pa_cons (pe_exf (pe_new T.e5 hr (pv 2))) (pa_cons (pe_newK T.e5 hr (pv 2)) pa_nil))) pa_nil)))))
      (pss_cons (ps_set (i := 3) nd rfl (.inl rfl) (pe_op op_cat (pv 3) (pe_lst (pa_cons (pe_tup (pa_cons (pe_exf (pe_new T.e6 hr (pv 2))) (pa_cons (pe_newK T.e6 hr (pv 2)) pa_nil))) (pa_cons (pe_tup (pa_cons (pe_exf (pe_new T.e7 hr (pv 2))) (pa_cons (pe_newK T.e7 hr (pv 2)) pa_nil))) pa_nil)))))
      (pss_cons (ps_set (i := 3) nd rfl (.inl rfl) (pe_op op_cat (pv 3) (pe_lst (pa_cons (pe_tup (pa_cons (pe_exf (pe_new T.e8 hr (pv 2))) (pa_cons (pe_newK T.e8 hr (pv 2)) pa_nil))) (pa_cons (pe_tup (pa_cons (pe_exf (pe_new T.e9 hr (pv 2))) (pa_cons (pe_newK T.e9 hr (pv 2)) pa_nil))) pa_nil)))))
      (pss_cons (ps_set (i := 3) nd rfl (.inl rfl) (pe_op op_cat (pv 3) (pe_lst (pa_cons (pe_tup (pa_cons (pe_exf (pe_new T.e10 hr (pv 2))) (pa_cons (pe_newK T.e10 hr (pv 2)) pa_nil))) (pa_cons (pe_tup (pa_cons (pe_exf (pe_new T.e11 hr (pv 2))) (pa_cons (pe_newK T.e11 hr (pv 2)) pa_nil))) pa_nil)))))
      (pss_cons (ps_set (i := 4) nd rfl (.inl rfl) (pe_op op_cat (pe_lc (own := [("_law_pair", 8)]) (g := gName 8) (tt := tYes) rfl nd (pi_list (pv 3)) (blkOk_by (N := lawN) (sc := defScope s_law) (by decide +kernel)) (fun _ _ _ _ _ => pg_name (i := 8) nd rfl (Or.inl rfl)) (fun _ _ _ _ _ => pts_nil) (fun _ _ _ _ _ => pe_ix (r := rIxT K) ix_tup (pv 8) pe_int (fun _ _ => rfl)))
          (pe_lst (pa_cons (pe_new0 T.e12 hr2) (pa_cons (pe_new0 T.e13 hr2) pa_nil)))))
      (pss_cons (ps_set (i := 5) nd rfl (.inl rfl) (pe_lst (pa_cons (pe_exf (pe_ix ix_list (pv 4) pe_int (fun _ _ => rfl))) (pa_cons (pe_exf (pe_ix ix_list (pv 4) pe_int (fun _ _ => rfl))) (pa_cons (pe_exf (pe_ix ix_list (pv 4) pe_int (fun _ _ => rfl))) (pa_cons (pe_exf (pe_ix ix_list (pv 4) pe_int (fun _ _ => rfl))) (pa_cons (pe_exf (pe_ix ix_list (pv 4) pe_int (fun _ _ => rfl))) (pa_cons (pe_exf (pe_ix ix_list (pv 4) pe_int (fun _ _ => rfl))) pa_nil))))))))
      (pss_cons (ps_set (i := 5) nd rfl (.inl rfl) (pe_op op_cat (pv 5) (pe_lst (pa_cons (pe_exf (pe_ix ix_list (pv 4) pe_int (fun _ _ => rfl))) (pa_cons (pe_exf (pe_ix ix_list (pv 4) pe_int (fun _ _ => rfl))) (pa_cons (pe_exf (pe_ix ix_list (pv 4) pe_int (fun _ _ => rfl))) (pa_cons (pe_exf (pe_ix ix_list (pv 4) pe_int (fun _ _ => rfl))) (pa_cons (pe_exf (pe_ix ix_list (pv 4) pe_int (fun _ _ => rfl))) pa_nil))))))))
      (pss_cons (ps_set (i := 5) nd rfl (.inl rfl) (pe_op op_cat (pv 5) (pe_lst (pa_cons (pe_exf (pe_ix ix_list (pv 4) pe_int (fun _ _ => rfl))) pa_nil))))
      (pss_cons (ps_if (PW.pt (pw_or (pt_cmpR (op_neS (Nat.lt_of_succ_lt hu)) (pe_lc (own := [("_law_pair", 8)]) (g := gName 8) (tt := tYes) rfl nd (pi_list (pv 3)) (blkOk_by (N := lawN) (sc := defScope s_law) (by decide +kernel)) (fun _ _ _ _ _ => pg_name (i := 8) nd rfl (Or.inl rfl)) (fun _ _ _ _ _ => pts_nil) (fun _ _ _ _ _ => pe_ix (r := rIxT K) ix_tup (pv 8) pe_int (fun _ _ => rfl))) (pe_op op_rep (pe_lst (pa_cons (pv 2) pa_nil)) pe_int) (nomark _))
            (pw_or1 (pt_cmpR (op_neS (Nat.lt_of_succ_lt hu)) (pv 5) (pe_op op_rep (pe_lst (pa_cons (pv 2) pa_nil)) pe_int) (nomark _)))))
          (pss_one (ps_ret pe_bl)) pss_nil)
      (pss_cons (ps_for PassesOwn.never rfl (pi_range1 (by rfl) T.mR (pa_cons (pe_callB call_len_seq (by rfl) T.mLen boot_len (pa_cons (pv 4) pa_nil)) pa_nil)) (pg_name (i := 6) nd rfl (Or.inr rfl))
        (pss_cons (ps_if (PW.pt (pw_or (pt_not (pt_val (pe_callB call_isx (by rfl) T.mI PyProof.Rows.Boot.«isinstance» (pa_cons (pe_ix ix_list (pv 4) (pv 6) (fun _ _ => rfl)) (pa_cons (pe_glob (v := .ref L) (by rfl) T.lg rfl) pa_nil)))))
            (pw_or1 (pt_not (pt_val (pe_callB call_isx (by rfl) T.mI PyProof.Rows.Boot.«isinstance» (pa_cons (pe_ix ix_list (pv 4) (pv 6) (fun _ _ => rfl)) (pa_cons (pe_bltn (v := .ty "ValueError") (by rfl) T.mV PyProof.Rows.Boot.«ValueError» rfl) pa_nil))))))))
          (pss_one (ps_ret pe_bl)) pss_nil)
        (pss_one (ps_if (pt_cmpR (op_neS (Nat.lt_of_succ_lt hu)) (pe_cal T.kinds hr1 (pa_cons (pe_ix ix_list (pv 4) (pv 6) (fun _ _ => rfl)) pa_nil))
            (pe_lc (own := [("_law_j", 9)]) (g := gName 9) (tt := tYes) rfl nd (pi_range1 (by rfl) T.mR (pa_cons (pe_callB call_len_seq (by rfl) T.mLen boot_len (pa_cons (pv 4) pa_nil)) pa_nil)) (blkOk_by (N := lawN) (sc := defScope s_law) (by decide +kernel)) (fun _ _ _ _ _ => pg_name (i := 9) nd rfl (Or.inl rfl)) (fun _ _ _ _ _ => pts_nil) (fun _ _ _ _ _ => pe_cmpR op_eq (pv 6) (pv 9) (nomark _))) (nomark _))
          (pss_one (ps_ret pe_bl)) pss_nil))))
      (pss_cons (ps_set (i := 7) nd rfl (.inl rfl) (pe_exc T.lT iL tL FL hr3 bL .nil pass0 (by rfl) T.lg (pa_cons pe_str pa_nil)))
      (pss_one (ps_ret (pe_and (pe_callB call_isx (by rfl) T.mI PyProof.Rows.Boot.«isinstance» (pa_cons (pv 7) (pa_cons (pe_bltn (v := .ty "ValueError") (by rfl) T.mV PyProof.Rows.Boot.«ValueError» rfl) pa_nil)))
        (pe_one (pe_not (pe_callB (cr_any rfl) (by rfl) T.mA PyProof.Rows.Boot.«any» (pa_cons (pe_cal T.kinds hr1 (pa_cons (pv 7) pa_nil)) pa_nil)))))))))))))))))))))), ?_⟩
    -- the source, the pick
    refine ⟨_, rfl, a, ns, rfl, hS, hlen, fun p H1 hp hs0 ks => ?_⟩
    refine ⟨_, rfl, ⟨(by show 2 ≤ sizeLine; decide), fun t ht => ⟨(by show 1 ≤ sizeLine; decide), fun l hl => fun d hd => ?_⟩⟩⟩
    refine ⟨_, _, rfl, rfl, ⟨by decide, by decide +kernel⟩, _, _, rfl, rfl, ⟨by decide, by decide +kernel⟩, _, _, rfl, rfl, ⟨by decide, by decide +kernel⟩, (by show 8 ≤ sizeLine; decide), fun q hq => ?_⟩
    generalize hB : (((10 : Int) ^ (60 : Int).toNat) ^ (64 : Int).toNat) ^ (2 : Int).toNat = B
    obtain ⟨op, hop⟩ := hs0.there
    have s1 : Same H1 (upd (upd (upd H1 t (.tup [V.str "a", V.int 1])) l (.lst [V.str "b"])) d (.dK [])) := (same_new ht).trans ((same_new hl).trans (same_new hd))
    have s2 := s1.trans (same_new (o := .lst [V.non, V.int 5, V.str "a", V.ref t, V.ref l, V.ref d, V.int B, V.bl true]) hq)
    refine ⟨p, q, _, 0, rfl, (((hs0.new ht).new hl).new hd).new hq, by decide, SqL.of upd_same, (ne_of_none (s1 _ _ hop) hq).symm, (by show 0 < 8; decide), (by show 8 ≤ 100000; decide), fun x H2 hx hs2 kp => ?_⟩
    have ntp : t ≠ p := fun e => by rw [e, hop] at ht; cases ht
    have nlp : l ≠ p := fun e => by rw [e, same_new ht _ _ hop] at hl; cases hl
    have ndp : d ≠ p := fun e => by rw [e, same_new hl _ _ (same_new ht _ _ hop)] at hd; cases hd
    have ft := kp t _ ntp (same_new hq _ _ (same_new hd _ _ (same_new hl _ _ (upd_same (H := H1) (a := t) (o := .tup [V.str "a", V.int 1])))))
    have fl := kp l _ nlp (same_new hq _ _ (same_new hd _ _ (upd_same (H := upd H1 t (.tup [V.str "a", V.int 1])) (a := l) (o := .lst [V.str "b"]))))
    have fdd := kp d _ ndp (same_new hq _ _ (upd_same (H := upd (upd H1 t (.tup [V.str "a", V.int 1])) l (.lst [V.str "b"])) (a := d) (o := .dK [])))
    have fx : Fld H2 x := by
      simp only [List.mem_cons, List.not_mem_nil, or_false] at hx
      rcases hx with h | h | h | h | h | h | h | h <;> subst h
      · exact .non
      · exact .int _
      · exact .str _
      · exact .tup ft
      · exact .lst fl
      · exact .dct fdd
      · exact .int _
      · exact .bl _
    clear ft fl fdd ntp nlp ndp s2 s1 hx hs2 kp
    -- the pairs
    show tSeq (tAsg (tLst (tCons (tPair K (c 0) "name" 2) (tCons (tPair K (c 1) "kind" 2) tNil))) (gName 3)) _ _ [some (V.ref a), some (V.ref p), some x, none, none, none, none, none, none, none] H2
    refine asg_of (two_of (d1 := (c 0, "name")) (d2 := (c 1, "kind")) T.e0.k T.e1.k rfl fx fun l1 H3 s3 P1 => ?_)
    have fx3 : Fld H3 x := fx.same s3
    show tSeq (tAsg (tOp rCat (tVar 3) (tLst (tCons (tPair K (c 2) "word" 2) (tCons (tPair K (c 3) "number" 2) tNil)))) (gName 3)) _ _ [some (V.ref a), some (V.ref p), some x, some (V.ref l1), none, none, none, none, none, none] H3
    refine asg_of (more_of (d1 := (c 2, "word")) (d2 := (c 3, "number")) T.e2.k T.e3.k rfl rfl fx3 P1 (Nat.le_of_ble_eq_true rfl) fun l2 H4 s4 P2 => ?_)
    have fx4 : Fld H4 x := fx3.same s4
    show tSeq (tAsg (tOp rCat (tVar 3) (tLst (tCons (tPair K (c 4) "place" 2) (tCons (tPair K (c 5) "place" 2) tNil)))) (gName 3)) _ _ [some (V.ref a), some (V.ref p), some x, some (V.ref l2), none, none, none, none, none, none] H4
    refine asg_of (more_of (d1 := (c 4, "place")) (d2 := (c 5, "place")) T.e4.k T.e5.k rfl rfl fx4 P2 (Nat.le_of_ble_eq_true rfl) fun l3 H5 s5 P3 => ?_)
    have fx5 : Fld H5 x := fx4.same s5
    show tSeq (tAsg (tOp rCat (tVar 3) (tLst (tCons (tPair K (c 6) "line" 2) (tCons (tPair K (c 7) "kind" 2) tNil)))) (gName 3)) _ _ [some (V.ref a), some (V.ref p), some x, some (V.ref l3), none, none, none, none, none, none] H5
    refine asg_of (more_of (d1 := (c 6, "line")) (d2 := (c 7, "kind")) T.e6.k T.e7.k rfl rfl fx5 P3 (Nat.le_of_ble_eq_true rfl) fun l4 H6 s6 P4 => ?_)
    have fx6 : Fld H6 x := fx5.same s6
    show tSeq (tAsg (tOp rCat (tVar 3) (tLst (tCons (tPair K (c 8) "name" 2) (tCons (tPair K (c 9) "kind" 2) tNil)))) (gName 3)) _ _ [some (V.ref a), some (V.ref p), some x, some (V.ref l4), none, none, none, none, none, none] H6
    refine asg_of (more_of (d1 := (c 8, "name")) (d2 := (c 9, "kind")) T.e8.k T.e9.k rfl rfl fx6 P4 (Nat.le_of_ble_eq_true rfl) fun l5 H7 s7 P5 => ?_)
    have fx7 : Fld H7 x := fx6.same s7
    show tSeq (tAsg (tOp rCat (tVar 3) (tLst (tCons (tPair K (c 10) "name" 2) (tCons (tPair K (c 11) "index" 2) tNil)))) (gName 3)) _ _ [some (V.ref a), some (V.ref p), some x, some (V.ref l5), none, none, none, none, none, none] H7
    refine asg_of (more_of (d1 := (c 10, "name")) (d2 := (c 11, "index")) T.e10.k T.e11.k rfl rfl fx7 P5 (Nat.le_of_ble_eq_true rfl) fun l6 H8 s8 P6 => ?_)
    have fx8 : Fld H8 x := fx7.same s8
    obtain ⟨ts, hl6, hP⟩ := P6
    obtain ⟨es, hT, hE⟩ := errs_of hP
    have hT' := hT
    obtain ⟨e0, es1, rfl, E0, hE1⟩ := paired_cons (show Paired _ es (_ :: _) from hE)
    obtain ⟨e1, es2, rfl, E1, hE2⟩ := paired_cons (show Paired _ es1 (_ :: _) from hE1)
    obtain ⟨e2, es3, rfl, E2, hE3⟩ := paired_cons (show Paired _ es2 (_ :: _) from hE2)
    obtain ⟨e3, es4, rfl, E3, hE4⟩ := paired_cons (show Paired _ es3 (_ :: _) from hE3)
    obtain ⟨e4, es5, rfl, E4, hE5⟩ := paired_cons (show Paired _ es4 (_ :: _) from hE4)
    obtain ⟨e5, es6, rfl, E5, hE6⟩ := paired_cons (show Paired _ es5 (_ :: _) from hE5)
    obtain ⟨e6, es7, rfl, E6, hE7⟩ := paired_cons (show Paired _ es6 (_ :: _) from hE6)
    obtain ⟨e7, es8, rfl, E7, hE8⟩ := paired_cons (show Paired _ es7 (_ :: _) from hE7)
    obtain ⟨e8, es9, rfl, E8, hE9⟩ := paired_cons (show Paired _ es8 (_ :: _) from hE8)
    obtain ⟨e9, es10, rfl, E9, hE10⟩ := paired_cons (show Paired _ es9 (_ :: _) from hE9)
    obtain ⟨e10, es11, rfl, E10, hE11⟩ := paired_cons (show Paired _ es10 (_ :: _) from hE10)
    obtain ⟨e11, es12, rfl, E11, hE12⟩ := paired_cons (show Paired _ es11 (_ :: _) from hE11)
    cases paired_nil (show Paired _ es12 [] from hE12)
    -- the errors
    show tSeq (tAsg (tOp rCat (tLc (iList K (tVar 3)) (gName 8) tYes (tOp (rIxT K) (tVar 8) (tC (.int ((1 : Nat) : Int)))) [8]) (tLst (tCons (tExc (c 12) (sp_init0 K) [] tNil) (tCons (tExc (c 13) (sp_init0 K) [] tNil) tNil)))) (gName 4)) _ _ [some (V.ref a), some (V.ref p), some x, some (V.ref l6), none, none, none, none, none, none] H8
    refine asg_of (lc_pick (l := l6) (xs := ts.map V.ref) (ws := [V.ref e0, V.ref e1, V.ref e2, V.ref e3, V.ref e4, V.ref e5, V.ref e6, V.ref e7, V.ref e8, V.ref e9, V.ref e10, V.ref e11]) rfl hl6 ?_ ?_ (by decide) (by show 8 < 10; decide) ?_ fun D H9 hD s9 hd9 => ?_)
    · rw [List.length_map, paired_len hT]
      rfl
    · rw [List.length_map, paired_len hT]
      show 12 ≤ 1000
      decide
    · intro n y hy
      rw [List.getElem?_map] at hy
      cases et : ts[n]? with
      | none => rw [et] at hy; cases hy
      | some t0 =>
        rw [et] at hy
        cases Option.some.inj hy
        obtain ⟨e, he, ht0⟩ := paired_get hT et
        refine ⟨t0, _, .ref e, rfl, ht0, rfl, ?_⟩
        have := congrArg (Option.map V.ref) he
        rw [← List.getElem?_map] at this
        exact this
    refine ⟨Nat.zero_le _, fun b1 hb1 => ⟨b1, rfl, rfl, Nat.zero_le _, fun b2 hb2 => ⟨b2, rfl, rfl, (by show 2 ≤ sizeLine; decide), fun q1 hq1 => ?_⟩⟩⟩
    refine ⟨D, q1, _, _, rfl, rfl, same_new hq1 _ _ (same_new hb2 _ _ (same_new hb1 _ _ hd9)), upd_same, (by show 12 + 2 ≤ sizeLine; decide), fun q2 hq2 => ?_⟩
    have s10 := s9.trans ((same_new hb1).trans ((same_new hb2).trans ((same_new hq1).trans (same_new (o := .lst ([V.ref e0, V.ref e1, V.ref e2, V.ref e3, V.ref e4, V.ref e5, V.ref e6, V.ref e7, V.ref e8, V.ref e9, V.ref e10, V.ref e11] ++ [V.ref b1, V.ref b2])) hq2))))
    have hev : (upd (upd (upd (upd H9 b1 (exo b1 (c 12) none)) b2 (exo b2 (c 13) none)) q1 (.lst [V.ref b1, V.ref b2])) q2 (.lst ([V.ref e0, V.ref e1, V.ref e2, V.ref e3, V.ref e4, V.ref e5, V.ref e6, V.ref e7, V.ref e8, V.ref e9, V.ref e10, V.ref e11] ++ [V.ref b1, V.ref b2]))) q2 = some (.lst [V.ref e0, V.ref e1, V.ref e2, V.ref e3, V.ref e4, V.ref e5, V.ref e6, V.ref e7, V.ref e8, V.ref e9, V.ref e10, V.ref e11, V.ref b1, V.ref b2]) := upd_same
    have hb1' : (upd (upd (upd (upd H9 b1 (exo b1 (c 12) none)) b2 (exo b2 (c 13) none)) q1 (.lst [V.ref b1, V.ref b2])) q2 (.lst ([V.ref e0, V.ref e1, V.ref e2, V.ref e3, V.ref e4, V.ref e5, V.ref e6, V.ref e7, V.ref e8, V.ref e9, V.ref e10, V.ref e11] ++ [V.ref b1, V.ref b2]))) b1 = some (exo b1 (c 12) none) := same_new hq2 _ _ (same_new hq1 _ _ (same_new hb2 _ _ upd_same))
    have hb2' : (upd (upd (upd (upd H9 b1 (exo b1 (c 12) none)) b2 (exo b2 (c 13) none)) q1 (.lst [V.ref b1, V.ref b2])) q2 (.lst ([V.ref e0, V.ref e1, V.ref e2, V.ref e3, V.ref e4, V.ref e5, V.ref e6, V.ref e7, V.ref e8, V.ref e9, V.ref e10, V.ref e11] ++ [V.ref b1, V.ref b2]))) b2 = some (exo b2 (c 13) none) := same_new hq2 _ _ (same_new hq1 _ _ upd_same)
    generalize (upd (upd (upd (upd H9 b1 (exo b1 (c 12) none)) b2 (exo b2 (c 13) none)) q1 (.lst [V.ref b1, V.ref b2])) q2 (.lst ([V.ref e0, V.ref e1, V.ref e2, V.ref e3, V.ref e4, V.ref e5, V.ref e6, V.ref e7, V.ref e8, V.ref e9, V.ref e10, V.ref e11] ++ [V.ref b1, V.ref b2]))) = H10 at s10 hev hb1' hb2'
    have F0 : ErrAt H10 e0 (c 0) "name" x := E0.mono s10
    have F1 : ErrAt H10 e1 (c 1) "kind" x := E1.mono s10
    have F2 : ErrAt H10 e2 (c 2) "word" x := E2.mono s10
    have F3 : ErrAt H10 e3 (c 3) "number" x := E3.mono s10
    have F4 : ErrAt H10 e4 (c 4) "place" x := E4.mono s10
    have F5 : ErrAt H10 e5 (c 5) "place" x := E5.mono s10
    have F6 : ErrAt H10 e6 (c 6) "line" x := E6.mono s10
    have F7 : ErrAt H10 e7 (c 7) "kind" x := E7.mono s10
    have F8 : ErrAt H10 e8 (c 8) "name" x := E8.mono s10
    have F9 : ErrAt H10 e9 (c 9) "kind" x := E9.mono s10
    have F10 : ErrAt H10 e10 (c 10) "name" x := E10.mono s10
    have F11 : ErrAt H10 e11 (c 11) "index" x := E11.mono s10
    have fx10 : Fld H10 x := fx8.same s10
    have hl6' := s10 _ _ hl6
    have hT10 : Paired (fun t e => H10 t = some (.tup [x, .ref e])) ts [e0, e1, e2, e3, e4, e5, e6, e7, e8, e9, e10, e11] := paired_mono (fun t e q => s10 _ _ q) hT
    have hEx : ∀ i, i < 14 → ∃ e, ([V.ref e0, V.ref e1, V.ref e2, V.ref e3, V.ref e4, V.ref e5, V.ref e6, V.ref e7, V.ref e8, V.ref e9, V.ref e10, V.ref e11, V.ref b1, V.ref b2] : List V)[i]? = some (.ref e) ∧ ExcAt H10 e (c i) := fun i hi => by
      rcases lt14 hi with h | h | h | h | h | h | h | h | h | h | h | h | h | h <;> subst h
      · exact ⟨e0, rfl, F0.exc⟩
      · exact ⟨e1, rfl, F1.exc⟩
      · exact ⟨e2, rfl, F2.exc⟩
      · exact ⟨e3, rfl, F3.exc⟩
      · exact ⟨e4, rfl, F4.exc⟩
      · exact ⟨e5, rfl, F5.exc⟩
      · exact ⟨e6, rfl, F6.exc⟩
      · exact ⟨e7, rfl, F7.exc⟩
      · exact ⟨e8, rfl, F8.exc⟩
      · exact ⟨e9, rfl, F9.exc⟩
      · exact ⟨e10, rfl, F10.exc⟩
      · exact ⟨e11, rfl, F11.exc⟩
      · exact ⟨b1, rfl, .inl hb1'⟩
      · exact ⟨b2, rfl, .inl hb2'⟩
    -- the fields
    show tSeq (tAsg (tLst (tCons (tExF K "name" (tOp (rIxL K) (tVar 4) (tC (.int ((0 : Nat) : Int))))) (tCons (tExF K "kind" (tOp (rIxL K) (tVar 4) (tC (.int ((1 : Nat) : Int))))) (tCons (tExF K "word" (tOp (rIxL K) (tVar 4) (tC (.int ((2 : Nat) : Int))))) (tCons (tExF K "number" (tOp (rIxL K) (tVar 4) (tC (.int ((3 : Nat) : Int))))) (tCons (tExF K "place" (tOp (rIxL K) (tVar 4) (tC (.int ((4 : Nat) : Int))))) (tCons (tExF K "place" (tOp (rIxL K) (tVar 4) (tC (.int ((5 : Nat) : Int))))) tNil))))))) (gName 5)) _ _ [some (V.ref a), some (V.ref p), some x, some (V.ref l6), some (V.ref q2), none, none, none, none, none] H10
    refine asg_of ?_
    unfold tLst
    unfold tCons
    refine fld_of (T.R 0 (by decide)) T.e0.nf rfl hev rfl F0 ?_
    refine fld_of (T.R 1 (by decide)) T.e1.nf rfl hev rfl F1 ?_
    refine fld_of (T.R 2 (by decide)) T.e2.nf rfl hev rfl F2 ?_
    refine fld_of (T.R 3 (by decide)) T.e3.nf rfl hev rfl F3 ?_
    refine fld_of (T.R 4 (by decide)) T.e4.nf rfl hev rfl F4 ?_
    refine fld_of (T.R 5 (by decide)) T.e5.nf rfl hev rfl F5 ?_
    refine ⟨(by show 6 ≤ sizeLine; decide), fun r1 hr1' => ?_⟩
    have t1 := same_new (o := .lst [x, x, x, x, x, x]) hr1'
    have er1 : (upd H10 r1 (.lst [x, x, x, x, x, x])) r1 = some (.lst [x, x, x, x, x, x]) := upd_same
    generalize upd H10 r1 (.lst [x, x, x, x, x, x]) = H11 at t1 er1
    have hev1 := t1 _ _ hev
    show tSeq (tAsg (tOp rCat (tVar 5) (tLst (tCons (tExF K "line" (tOp (rIxL K) (tVar 4) (tC (.int ((6 : Nat) : Int))))) (tCons (tExF K "kind" (tOp (rIxL K) (tVar 4) (tC (.int ((7 : Nat) : Int))))) (tCons (tExF K "name" (tOp (rIxL K) (tVar 4) (tC (.int ((8 : Nat) : Int))))) (tCons (tExF K "kind" (tOp (rIxL K) (tVar 4) (tC (.int ((9 : Nat) : Int))))) (tCons (tExF K "name" (tOp (rIxL K) (tVar 4) (tC (.int ((10 : Nat) : Int))))) tNil))))))) (gName 5)) _ _ [some (V.ref a), some (V.ref p), some x, some (V.ref l6), some (V.ref q2), some (V.ref r1), none, none, none, none] H11
    refine asg_of ⟨_, rfl, ?_⟩
    unfold tLst
    unfold tCons
    refine fld_of (T.R 6 (by decide)) T.e6.nf rfl hev1 rfl (F6.mono t1) ?_
    refine fld_of (T.R 7 (by decide)) T.e7.nf rfl hev1 rfl (F7.mono t1) ?_
    refine fld_of (T.R 8 (by decide)) T.e8.nf rfl hev1 rfl (F8.mono t1) ?_
    refine fld_of (T.R 9 (by decide)) T.e9.nf rfl hev1 rfl (F9.mono t1) ?_
    refine fld_of (T.R 10 (by decide)) T.e10.nf rfl hev1 rfl (F10.mono t1) ?_
    refine ⟨(by show 5 ≤ sizeLine; decide), fun r2 hr2' => ?_⟩
    refine ⟨r1, r2, _, _, rfl, rfl, same_new hr2' _ _ er1, upd_same, (by show 6 + 5 ≤ sizeLine; decide), fun r3 hr3' => ?_⟩
    have t2 := t1.trans ((same_new hr2').trans (same_new (o := .lst ([x, x, x, x, x, x] ++ [x, x, x, x, x])) hr3'))
    have er3 : (upd (upd H11 r2 (.lst [x, x, x, x, x])) r3 (.lst ([x, x, x, x, x, x] ++ [x, x, x, x, x]))) r3 = some (.lst ([x, x, x, x, x, x] ++ [x, x, x, x, x])) := upd_same
    generalize upd (upd H11 r2 (.lst [x, x, x, x, x])) r3 (.lst ([x, x, x, x, x, x] ++ [x, x, x, x, x])) = H12 at t2 er3
    have hev2 := t2 _ _ hev
    show tSeq (tAsg (tOp rCat (tVar 5) (tLst (tCons (tExF K "index" (tOp (rIxL K) (tVar 4) (tC (.int ((11 : Nat) : Int))))) tNil))) (gName 5)) _ _ [some (V.ref a), some (V.ref p), some x, some (V.ref l6), some (V.ref q2), some (V.ref r3), none, none, none, none] H12
    refine asg_of ⟨_, rfl, ?_⟩
    unfold tLst
    unfold tCons
    refine fld_of (T.R 11 (by decide)) T.e11.nf rfl hev2 rfl (F11.mono t2) ?_
    refine ⟨(by show 1 ≤ sizeLine; decide), fun r4 hr4' => ?_⟩
    refine ⟨r3, r4, _, _, rfl, rfl, same_new hr4' _ _ er3, upd_same, (by show 11 + 1 ≤ sizeLine; decide), fun r5 hr5' => ?_⟩
    have t3 := t2.trans ((same_new hr4').trans (same_new (o := .lst ([x, x, x, x, x, x] ++ [x, x, x, x, x] ++ [x])) hr5'))
    have er5 : (upd (upd H12 r4 (.lst [x])) r5 (.lst ([x, x, x, x, x, x] ++ [x, x, x, x, x] ++ [x]))) r5 = some (.lst [x, x, x, x, x, x, x, x, x, x, x, x]) := upd_same
    generalize upd (upd H12 r4 (.lst [x])) r5 (.lst ([x, x, x, x, x, x] ++ [x, x, x, x, x] ++ [x])) = H13 at t3 er5
    have hl3 := t3 _ _ hl6'
    have hT13 : Paired (fun t e => H13 t = some (.tup [x, .ref e])) ts [e0, e1, e2, e3, e4, e5, e6, e7, e8, e9, e10, e11] := paired_mono (fun t e q => t3 _ _ q) hT10
    have tm : ([x, x, x, x, x, x, x, x, x, x, x, x] : List V).all Sl.tame = true := by
      simp only [List.all_cons, List.all_nil, Fld.tame fx10, Bool.and_self]
    show tSeq (tIfS (tOr (tTest (tOp (rNeS K) (tLc (iList K (tVar 3)) (gName 8) tYes (tOp (rIxT K) (tVar 8) (tC (.int ((0 : Nat) : Int)))) [8]) (tOp rRep (tLst (tCons (tVar 2) tNil)) (tC (.int 12))))) (tTest (tOp (rNeS K) (tVar 5) (tOp rRep (tLst (tCons (tVar 2) tNil)) (tC (.int 12)))))) _ _) _ _ [some (V.ref a), some (V.ref p), some x, some (V.ref l6), some (V.ref q2), some (V.ref r5), none, none, none, none] H13
    refine ifs_of (or_of (test_of ?_))
    refine lc_pick (l := l6) (xs := ts.map V.ref) (ws := [x, x, x, x, x, x, x, x, x, x, x, x]) rfl hl3 ?_ ?_ (by decide) (by show 8 < 10; decide) ?_ fun D1 H14 hD1 s14 hd14 => ?_
    · rw [List.length_map, paired_len hT]
      rfl
    · rw [List.length_map, paired_len hT]
      show 12 ≤ 1000
      decide
    · intro n y hy
      rw [List.getElem?_map] at hy
      cases et : ts[n]? with
      | none => rw [et] at hy; cases hy
      | some t0 =>
        rw [et] at hy
        cases Option.some.inj hy
        obtain ⟨e, he, ht0⟩ := paired_get hT13 et
        refine ⟨t0, _, x, rfl, ht0, rfl, ?_⟩
        have hn : n < 12 := (List.getElem?_eq_some_iff.mp he).1
        have hn' : n < ([x, x, x, x, x, x, x, x, x, x, x, x] : List V).length := hn
        rw [List.getElem?_eq_getElem hn']
        refine congrArg some ?_
        have hm : ([x, x, x, x, x, x, x, x, x, x, x, x] : List V)[n] ∈ ([x, x, x, x, x, x, x, x, x, x, x, x] : List V) := List.getElem_mem hn'
        simp only [List.mem_cons, List.not_mem_nil, or_false, or_self] at hm
        exact hm
    refine ⟨x, rfl, (by show 1 ≤ sizeLine; decide), fun y1 hy1 => ?_⟩
    refine ⟨y1, 12, [x], rfl, rfl, upd_same, by decide, by decide, (by show 1 * 12 ≤ sizeLine; decide), fun y2 hy2 => ?_⟩
    refine ⟨D1, y2, [x, x, x, x, x, x, x, x, x, x, x, x], rfl, rfl, SqL.of (same_new hy2 _ _ (same_new hy1 _ _ hd14)), SqL.of upd_same, tm, false, rfl, iteF ?_⟩
    have t4 := s14.trans ((same_new hy1).trans (same_new (o := .lst (List.replicate (12 : Int).toNat [x]).flatten) hy2))
    have er6 := t4 _ _ er5
    generalize upd (upd H14 y1 (.lst [x])) y2 (.lst (List.replicate (12 : Int).toNat [x]).flatten) = H15 at t4 er6
    refine ⟨_, rfl, ?_⟩
    refine ⟨x, rfl, (by show 1 ≤ sizeLine; decide), fun y3 hy3 => ?_⟩
    refine ⟨y3, 12, [x], rfl, rfl, upd_same, by decide, by decide, (by show 1 * 12 ≤ sizeLine; decide), fun y4 hy4 => ?_⟩
    refine ⟨r5, y4, [x, x, x, x, x, x, x, x, x, x, x, x], rfl, rfl, SqL.of (same_new hy4 _ _ (same_new hy3 _ _ er6)), SqL.of upd_same, tm, false, rfl, iteF ?_⟩
    have t5 := t3.trans (t4.trans ((same_new hy3).trans (same_new (o := .lst (List.replicate (12 : Int).toNat [x]).flatten) hy4)))
    generalize upd (upd H15 y3 (.lst [x])) y4 (.lst (List.replicate (12 : Int).toNat [x]).flatten) = H16 at t5
    have hev5 := t5 _ _ hev
    have hEx5 : ∀ i, i < 14 → ∃ e, ([V.ref e0, V.ref e1, V.ref e2, V.ref e3, V.ref e4, V.ref e5, V.ref e6, V.ref e7, V.ref e8, V.ref e9, V.ref e10, V.ref e11, V.ref b1, V.ref b2] : List V)[i]? = some (.ref e) ∧ ExcAt H16 e (c i) := fun i hi => let ⟨e, g1, g2⟩ := hEx i hi; ⟨e, g1, ExcAt.mono g2 t5⟩
    clear F0 F1 F2 F3 F4 F5 F6 F7 F8 F9 F10 F11 E0 E1 E2 E3 E4 E5 E6 E7 E8 E9 E10 E11 hEx hE hP hT hT' hT10 hT13
    clear hE1 hE2 hE3 hE4 hE5 hE6 hE7 hE8 hE9 hE10 hE11
    -- the kinds, one by one
    refine nx_of ?_
    show tSeq (tFor _ _ _) _ _ [some (V.ref a), some (V.ref p), some x, some (V.ref l6), some (V.ref q2), some (V.ref r5), none, none, none, none] H16
    refine ⟨_, rfl, q2, _, rfl, .inl (SqL.of hev5), ((14 : Nat) : Int), rfl, by decide, by decide, ?_⟩
    refine for_range (lo := 0) (n := 14) (fun _ σ H => Same H16 H ∧ ∃ y, σ = [some (V.ref a), some (V.ref p), some x, some (V.ref l6), some (V.ref q2), some (V.ref r5), y, none, none, none]) ⟨fun _ _ e => e, none, rfl⟩ ?_ ?_
    · intro i σ H hi ⟨s16, y, e⟩
      subst e
      obtain ⟨ei, gi, Ei⟩ := hEx5 i hi
      have Ri := T.R i hi
      rw [show (0 : Int) + (i : Int) = (i : Int) from Int.zero_add _]
      show tSeq (tIfS (tOr (tNot (tB (tCB (rIsX K) (tCons (tOp (rIxL K) (tVar 4) (tVar 6)) (tCons (tC (.ref L)) tNil))))) (tNot (tB (tCB (rIsX K) (tCons (tOp (rIxL K) (tVar 4) (tVar 6)) (tCons (tC (.ty "ValueError")) tNil)))))) _ _) _ _ [some (V.ref a), some (V.ref p), some x, some (V.ref l6), some (V.ref q2), some (V.ref r5), some (V.int (i : Int)), none, none, none] H
      have he1 := s16 _ _ hev5
      have E1 : ExcAt H ei (c i) := ExcAt.mono Ei s16
      refine ifs_of (or_of (isk_of rfl rfl he1 gi E1 Ri (.own L) (T.kL i hi) ⟨true, rfl, iteF ?_⟩))
      refine isk_of rfl rfl he1 gi E1 Ri (.ty "ValueError") (T.kV i hi) ⟨true, rfl, iteF ?_⟩
      refine nx_of ?_
      refine ⟨_, rfl, _, rfl, q2, _, (i : Int), .ref ei, rfl, rfl, SqL.of he1, atI_nat gi, ?_⟩
      refine ⟨ei, c i, fun j => decide (i = j), rfl, E1, Ri, fun j hj => T.kM i j hi hj, fun p2 H17 hp2 s17 hl2 => ?_⟩
      have he2 := s17 _ _ he1
      refine ⟨_, rfl, q2, _, rfl, .inl (SqL.of he2), ((14 : Nat) : Int), rfl, by decide, by decide, fun D2 hD2 => ?_⟩
      refine lc_range (lo := 0) (n := 14) (fun n H' => Same H17 H' ∧ H' D2 = some (.lst ((List.range n).map fun j => V.bl (decide (i = j))))) ⟨same_new hD2, upd_same⟩ ?_ ?_
      · intro j H' hj ⟨s18, hd⟩
        refine ⟨rfl, yes_of (iteT ?_)⟩
        refine ⟨_, rfl, _, rfl, rfl, _, hd, ?_, ?_⟩
        · rw [List.length_map, List.length_range, sizeLine_eq]
          omega
        · refine ⟨fun b o e => ?_, ?_⟩
          · rw [upd_ne (ne_of_none e hD2)]
            exact s18 b o e
          · rw [upd_same, dec_ij, List.range_succ, List.map_append]
            rfl
      · intro H' ⟨s18, hd⟩
        refine ⟨p2, D2, _, rfl, rfl, SqL.of (s18 _ _ hl2), SqL.of hd, rfl, false, rfl, iteF ?_⟩
        exact ⟨fun b o e => s18 _ _ (s17 _ _ (s16 _ _ e)), _, rfl⟩
    · intro σ H ⟨s16, y, e⟩
      subst e
      show tSeq (tAsg (tExc L (sp_lot K) [] (tCons (tC (.str "words")) tNil)) (gName 7)) _ _ [some (V.ref a), some (V.ref p), some x, some (V.ref l6), some (V.ref q2), some (V.ref r5), y, none, none, none] H
      refine asg_of ⟨(by show 1 ≤ 1000; decide), fun a9 ha9 => ⟨a9, L, _, rfl, T.lT, upd_same, .str _, rfl, ?_⟩⟩
      refine ⟨_, rfl, a9, L, .ty "ValueError", .type "ValueError", true, rfl, .inl upd_same, T.lR, .ty _, T.lV, true, rfl, iteT ?_⟩
      refine ⟨_, rfl, a9, L, fun _ => false, rfl, .inl upd_same, T.lR, T.lM, fun p1 H' hp1 sm hl1 => ?_⟩
      refine ⟨p1, (List.range 14).map fun _ => false, rfl, SqL.of hl1, false, rfl, ?_⟩
      exact k _
end
end Lw
/-! ## K21h -/
set_option Elab.async false
set_option linter.all false
set_option maxRecDepth 100000
set_option maxHeartbeats 4000000
namespace Lw
open PySem PySem.Spec PyProof.Rows L2 Sl
section
variable {P : Program} {w : World} {K : PySem.W.Frag} {mg : Str → Option Value} {base : Heap} {f : Addr} {fd : FuncData} {La : Addr}
theorem ok_BadTable (F : FnM K "BadTable.__init__" s_BadTable___init__ f fd) (L : LotC P w K mg base La) : FnOk P w K mg base CX0 3 f fd ["self", "name"] (sp_init K "name") := by
  obtain ⟨fL, fdL, kv, hk, FL, bL⟩ := L.ex
  refine F.ok sc_BadTable___init__ (fun vs H Q E h => ?_) (fun cdv A outer s H vs Q E hr h => ?_)
  · obtain ⟨a, C, v, rfl, _⟩ := h
    rfl
  · obtain ⟨a, C, v, rfl, T, nf, ha, hv, k⟩ := h
    refine ⟨_, PSs.nox (pss_cons (ps_expr (pe_clsfn (by rfl) L.g L.rd kv hk FL hr bL .nil pass0 (pa_cons (pv 0) (pa_cons (pv 1) pa_nil)))) (pss_one (ps_ost (pv 0) (pv 1)))), ?_⟩
    refine ⟨_, rfl, _, rfl, a, C, v, rfl, T, ha, hv, ?_⟩
    refine ⟨_, rfl, _, rfl, a, C, rfl, T, nf, .inl ⟨ha, fun dx hd ne => k dx hd ne⟩⟩
theorem ok_BadStatement (F : FnM K "BadStatement.__init__" s_BadStatement___init__ f fd) (L : LotC P w K mg base La) : FnOk P w K mg base CX0 3 f fd ["self", "kind"] (sp_init K "kind") := by
  obtain ⟨fL, fdL, kv, hk, FL, bL⟩ := L.ex
  refine F.ok sc_BadStatement___init__ (fun vs H Q E h => ?_) (fun cdv A outer s H vs Q E hr h => ?_)
  · obtain ⟨a, C, v, rfl, _⟩ := h
    rfl
  · obtain ⟨a, C, v, rfl, T, nf, ha, hv, k⟩ := h
    refine ⟨_, PSs.nox (pss_cons (ps_expr (pe_clsfn (by rfl) L.g L.rd kv hk FL hr bL .nil pass0 (pa_cons (pv 0) (pa_cons (pv 1) pa_nil)))) (pss_one (ps_ost (pv 0) (pv 1)))), ?_⟩
    refine ⟨_, rfl, _, rfl, a, C, v, rfl, T, ha, hv, ?_⟩
    refine ⟨_, rfl, _, rfl, a, C, rfl, T, nf, .inl ⟨ha, fun dx hd ne => k dx hd ne⟩⟩
theorem ok_BadForm (F : FnM K "BadForm.__init__" s_BadForm___init__ f fd) (L : LotC P w K mg base La) : FnOk P w K mg base CX0 3 f fd ["self", "word"] (sp_init K "word") := by
  obtain ⟨fL, fdL, kv, hk, FL, bL⟩ := L.ex
  refine F.ok sc_BadForm___init__ (fun vs H Q E h => ?_) (fun cdv A outer s H vs Q E hr h => ?_)
  · obtain ⟨a, C, v, rfl, _⟩ := h
    rfl
  · obtain ⟨a, C, v, rfl, T, nf, ha, hv, k⟩ := h
    refine ⟨_, PSs.nox (pss_cons (ps_expr (pe_clsfn (by rfl) L.g L.rd kv hk FL hr bL .nil pass0 (pa_cons (pv 0) (pa_cons (pv 1) pa_nil)))) (pss_one (ps_ost (pv 0) (pv 1)))), ?_⟩
    refine ⟨_, rfl, _, rfl, a, C, v, rfl, T, ha, hv, ?_⟩
    refine ⟨_, rfl, _, rfl, a, C, rfl, T, nf, .inl ⟨ha, fun dx hd ne => k dx hd ne⟩⟩
theorem ok_BadNumber (F : FnM K "BadNumber.__init__" s_BadNumber___init__ f fd) (L : LotC P w K mg base La) : FnOk P w K mg base CX0 3 f fd ["self", "number"] (sp_init K "number") := by
  obtain ⟨fL, fdL, kv, hk, FL, bL⟩ := L.ex
  refine F.ok sc_BadNumber___init__ (fun vs H Q E h => ?_) (fun cdv A outer s H vs Q E hr h => ?_)
  · obtain ⟨a, C, v, rfl, _⟩ := h
    rfl
  · obtain ⟨a, C, v, rfl, T, nf, ha, hv, k⟩ := h
    refine ⟨_, PSs.nox (pss_cons (ps_expr (pe_clsfn (by rfl) L.g L.rd kv hk FL hr bL .nil pass0 (pa_cons (pv 0) (pa_cons (pv 1) pa_nil)))) (pss_one (ps_ost (pv 0) (pv 1)))), ?_⟩
    refine ⟨_, rfl, _, rfl, a, C, v, rfl, T, ha, hv, ?_⟩
    refine ⟨_, rfl, _, rfl, a, C, rfl, T, nf, .inl ⟨ha, fun dx hd ne => k dx hd ne⟩⟩
theorem ok_BadTrigger (F : FnM K "BadTrigger.__init__" s_BadTrigger___init__ f fd) (L : LotC P w K mg base La) : FnOk P w K mg base CX0 3 f fd ["self", "place"] (sp_init K "place") := by
  obtain ⟨fL, fdL, kv, hk, FL, bL⟩ := L.ex
  refine F.ok sc_BadTrigger___init__ (fun vs H Q E h => ?_) (fun cdv A outer s H vs Q E hr h => ?_)
  · obtain ⟨a, C, v, rfl, _⟩ := h
    rfl
  · obtain ⟨a, C, v, rfl, T, nf, ha, hv, k⟩ := h
    refine ⟨_, PSs.nox (pss_cons (ps_expr (pe_clsfn (by rfl) L.g L.rd kv hk FL hr bL .nil pass0 (pa_cons (pv 0) (pa_cons (pv 1) pa_nil)))) (pss_one (ps_ost (pv 0) (pv 1)))), ?_⟩
    refine ⟨_, rfl, _, rfl, a, C, v, rfl, T, ha, hv, ?_⟩
    refine ⟨_, rfl, _, rfl, a, C, rfl, T, nf, .inl ⟨ha, fun dx hd ne => k dx hd ne⟩⟩
theorem ok_BadBook (F : FnM K "BadBook.__init__" s_BadBook___init__ f fd) (L : LotC P w K mg base La) : FnOk P w K mg base CX0 3 f fd ["self", "place"] (sp_init K "place") := by
  obtain ⟨fL, fdL, kv, hk, FL, bL⟩ := L.ex
  refine F.ok sc_BadBook___init__ (fun vs H Q E h => ?_) (fun cdv A outer s H vs Q E hr h => ?_)
  · obtain ⟨a, C, v, rfl, _⟩ := h
    rfl
  · obtain ⟨a, C, v, rfl, T, nf, ha, hv, k⟩ := h
    refine ⟨_, PSs.nox (pss_cons (ps_expr (pe_clsfn (by rfl) L.g L.rd kv hk FL hr bL .nil pass0 (pa_cons (pv 0) (pa_cons (pv 1) pa_nil)))) (pss_one (ps_ost (pv 0) (pv 1)))), ?_⟩
    refine ⟨_, rfl, _, rfl, a, C, v, rfl, T, ha, hv, ?_⟩
    refine ⟨_, rfl, _, rfl, a, C, rfl, T, nf, .inl ⟨ha, fun dx hd ne => k dx hd ne⟩⟩
theorem ok_BadText (F : FnM K "BadText.__init__" s_BadText___init__ f fd) (L : LotC P w K mg base La) : FnOk P w K mg base CX0 3 f fd ["self", "line"] (sp_init K "line") := by
  obtain ⟨fL, fdL, kv, hk, FL, bL⟩ := L.ex
  refine F.ok sc_BadText___init__ (fun vs H Q E h => ?_) (fun cdv A outer s H vs Q E hr h => ?_)
  · obtain ⟨a, C, v, rfl, _⟩ := h
    rfl
  · obtain ⟨a, C, v, rfl, T, nf, ha, hv, k⟩ := h
    refine ⟨_, PSs.nox (pss_cons (ps_expr (pe_clsfn (by rfl) L.g L.rd kv hk FL hr bL .nil pass0 (pa_cons (pv 0) (pa_cons (pv 1) pa_nil)))) (pss_one (ps_ost (pv 0) (pv 1)))), ?_⟩
    refine ⟨_, rfl, _, rfl, a, C, v, rfl, T, ha, hv, ?_⟩
    refine ⟨_, rfl, _, rfl, a, C, rfl, T, nf, .inl ⟨ha, fun dx hd ne => k dx hd ne⟩⟩
theorem ok_Overlap (F : FnM K "Overlap.__init__" s_Overlap___init__ f fd) (L : LotC P w K mg base La) : FnOk P w K mg base CX0 3 f fd ["self", "kind"] (sp_init K "kind") := by
  obtain ⟨fL, fdL, kv, hk, FL, bL⟩ := L.ex
  refine F.ok sc_Overlap___init__ (fun vs H Q E h => ?_) (fun cdv A outer s H vs Q E hr h => ?_)
  · obtain ⟨a, C, v, rfl, _⟩ := h
    rfl
  · obtain ⟨a, C, v, rfl, T, nf, ha, hv, k⟩ := h
    refine ⟨_, PSs.nox (pss_cons (ps_expr (pe_clsfn (by rfl) L.g L.rd kv hk FL hr bL .nil pass0 (pa_cons (pv 0) (pa_cons (pv 1) pa_nil)))) (pss_one (ps_ost (pv 0) (pv 1)))), ?_⟩
    refine ⟨_, rfl, _, rfl, a, C, v, rfl, T, ha, hv, ?_⟩
    refine ⟨_, rfl, _, rfl, a, C, rfl, T, nf, .inl ⟨ha, fun dx hd ne => k dx hd ne⟩⟩
theorem ok_Unknown (F : FnM K "Unknown.__init__" s_Unknown___init__ f fd) (L : LotC P w K mg base La) : FnOk P w K mg base CX0 3 f fd ["self", "name"] (sp_init K "name") := by
  obtain ⟨fL, fdL, kv, hk, FL, bL⟩ := L.ex
  refine F.ok sc_Unknown___init__ (fun vs H Q E h => ?_) (fun cdv A outer s H vs Q E hr h => ?_)
  · obtain ⟨a, C, v, rfl, _⟩ := h
    rfl
  · obtain ⟨a, C, v, rfl, T, nf, ha, hv, k⟩ := h
    refine ⟨_, PSs.nox (pss_cons (ps_expr (pe_clsfn (by rfl) L.g L.rd kv hk FL hr bL .nil pass0 (pa_cons (pv 0) (pa_cons (pv 1) pa_nil)))) (pss_one (ps_ost (pv 0) (pv 1)))), ?_⟩
    refine ⟨_, rfl, _, rfl, a, C, v, rfl, T, ha, hv, ?_⟩
    refine ⟨_, rfl, _, rfl, a, C, rfl, T, nf, .inl ⟨ha, fun dx hd ne => k dx hd ne⟩⟩
theorem ok_BadPicks (F : FnM K "BadPicks.__init__" s_BadPicks___init__ f fd) (L : LotC P w K mg base La) : FnOk P w K mg base CX0 3 f fd ["self", "kind"] (sp_init K "kind") := by
  obtain ⟨fL, fdL, kv, hk, FL, bL⟩ := L.ex
  refine F.ok sc_BadPicks___init__ (fun vs H Q E h => ?_) (fun cdv A outer s H vs Q E hr h => ?_)
  · obtain ⟨a, C, v, rfl, _⟩ := h
    rfl
  · obtain ⟨a, C, v, rfl, T, nf, ha, hv, k⟩ := h
    refine ⟨_, PSs.nox (pss_cons (ps_expr (pe_clsfn (by rfl) L.g L.rd kv hk FL hr bL .nil pass0 (pa_cons (pv 0) (pa_cons (pv 1) pa_nil)))) (pss_one (ps_ost (pv 0) (pv 1)))), ?_⟩
    refine ⟨_, rfl, _, rfl, a, C, v, rfl, T, ha, hv, ?_⟩
    refine ⟨_, rfl, _, rfl, a, C, rfl, T, nf, .inl ⟨ha, fun dx hd ne => k dx hd ne⟩⟩
theorem ok_Refused (F : FnM K "Refused.__init__" s_Refused___init__ f fd) (L : LotC P w K mg base La) : FnOk P w K mg base CX0 3 f fd ["self", "name"] (sp_init K "name") := by
  obtain ⟨fL, fdL, kv, hk, FL, bL⟩ := L.ex
  refine F.ok sc_Refused___init__ (fun vs H Q E h => ?_) (fun cdv A outer s H vs Q E hr h => ?_)
  · obtain ⟨a, C, v, rfl, _⟩ := h
    rfl
  · obtain ⟨a, C, v, rfl, T, nf, ha, hv, k⟩ := h
    refine ⟨_, PSs.nox (pss_cons (ps_expr (pe_clsfn (by rfl) L.g L.rd kv hk FL hr bL .nil pass0 (pa_cons (pv 0) (pa_cons (pv 1) pa_nil)))) (pss_one (ps_ost (pv 0) (pv 1)))), ?_⟩
    refine ⟨_, rfl, _, rfl, a, C, v, rfl, T, ha, hv, ?_⟩
    refine ⟨_, rfl, _, rfl, a, C, rfl, T, nf, .inl ⟨ha, fun dx hd ne => k dx hd ne⟩⟩
theorem ok_BadClass (F : FnM K "BadClass.__init__" s_BadClass___init__ f fd) (L : LotC P w K mg base La) : FnOk P w K mg base CX0 3 f fd ["self", "index"] (sp_init K "index") := by
  obtain ⟨fL, fdL, kv, hk, FL, bL⟩ := L.ex
  refine F.ok sc_BadClass___init__ (fun vs H Q E h => ?_) (fun cdv A outer s H vs Q E hr h => ?_)
  · obtain ⟨a, C, v, rfl, _⟩ := h
    rfl
  · obtain ⟨a, C, v, rfl, T, nf, ha, hv, k⟩ := h
    refine ⟨_, PSs.nox (pss_cons (ps_expr (pe_clsfn (by rfl) L.g L.rd kv hk FL hr bL .nil pass0 (pa_cons (pv 0) (pa_cons (pv 1) pa_nil)))) (pss_one (ps_ost (pv 0) (pv 1)))), ?_⟩
    refine ⟨_, rfl, _, rfl, a, C, v, rfl, T, ha, hv, ?_⟩
    refine ⟨_, rfl, _, rfl, a, C, rfl, T, nf, .inl ⟨ha, fun dx hd ne => k dx hd ne⟩⟩
theorem ok_Endless (F : FnM K "Endless.__init__" s_Endless___init__ f fd) : FnOk P w K mg base CX0 1 f fd ["self"] (sp_init0 K) := by
  refine F.ok sc_Endless___init__ (fun vs H Q E h => ?_) (fun cdv A outer s H vs Q E hr h => ?_)
  · obtain ⟨a, rfl, _⟩ := h
    rfl
  · obtain ⟨a, rfl, k⟩ := h
    refine ⟨_, PSs.nox (pss_one ps_pass), ?_⟩
    exact k
theorem ok_NoDeed (F : FnM K "NoDeed.__init__" s_NoDeed___init__ f fd) : FnOk P w K mg base CX0 1 f fd ["self"] (sp_init0 K) := by
  refine F.ok sc_NoDeed___init__ (fun vs H Q E h => ?_) (fun cdv A outer s H vs Q E hr h => ?_)
  · obtain ⟨a, rfl, _⟩ := h
    rfl
  · obtain ⟨a, rfl, k⟩ := h
    refine ⟨_, PSs.nox (pss_one ps_pass), ?_⟩
    exact k
end
end Lw
/-! ## SlHead -/
set_option Elab.async false
set_option linter.all false
set_option maxRecDepth 100000
set_option maxHeartbeats 4000000
/-! a head's Hook: the defs of the top, facts by names, and any further looks at the written part (the statics of C within) -/
namespace Sl
open PySem PySem.Spec PyProof.Rows L2 He
def asS (g : Addr → Option Obj) (n : Nat) : List Addr := PySem.cStatics :: He.asD g n
abbrev AlS : Type := He.AlD × Bool
def obsS (fa : List Fa) (fn : List DefD) (ex : List (PySem.W.Frag → Bool)) (K : PySem.W.Frag) : AlS := (obsD fa fn K, ex.all fun e => e K)
def obsSG (n : Nat) (fa : List Fa) (fn : List DefD) (ex : List (PySem.W.Frag → Bool)) (g : Addr → Option Obj) : AlS := obsS fa fn ex (frG g (asS g n))
def valS (fn : List DefD) : AlS := (valD fn, true)
def SaysS (fa : List Fa) (fn : List DefD) (ex : List (PySem.W.Frag → Bool)) (K : PySem.W.Frag) : Prop := obsS fa fn ex K = valS fn
def hookS (n : Nat) (fa : List Fa) (fn : List DefD) (ex : List (PySem.W.Frag → Bool)) : PySem.W.Hook where
  α := AlS
  obs := fun s => obsSG n fa fn ex s.heap.get?
  val := fun _ => valS fn
  says := fun _ h => ∃ K : PySem.W.Frag, K.In h ∧ SaysS fa fn ex K
  of := fun _ _ e => ⟨_, frG_in, e⟩
  keeps := fun _ _ _ ⟨K, hK, c⟩ k => ⟨K, PySem.W.Frag.In.keeps hK k, c⟩
theorem obsSG_eq {n : Nat} {fa : List Fa} {fn : List DefD} {ex : List (PySem.W.Frag → Bool)} {g : Addr → Option Obj} {s : Shared} (h : ∀ a, g a = s.heap.get? a) : obsSG n fa fn ex g = (hookS n fa fn ex).obs s := by
  have e : g = s.heap.get? := funext h
  rw [e] <;> rfl
theorem SaysS.d {fa : List Fa} {fn : List DefD} {ex : List (PySem.W.Frag → Bool)} {K : PySem.W.Frag} (c : SaysS fa fn ex K) : SaysD fa fn K := congrArg (fun z : AlS => z.1) c
theorem SaysS.x {fa : List Fa} {fn : List DefD} {ex : List (PySem.W.Frag → Bool)} {K : PySem.W.Frag} (c : SaysS fa fn ex K) (i : Nat) {e : PySem.W.Frag → Bool} (h : ex[i]? = some e := by rfl) : e K = true := by
  have c1 : (ex.all fun e => e K) = true := congrArg (fun z : AlS => z.2) c
  exact List.all_eq_true.mp c1 e (List.mem_of_getElem? h)
/-! ### an own exception's class -/
def oexB (K : PySem.W.Frag) (C : Addr) : Bool := match K.lookup C with
  | some ⟨.type t, _, .cls cd, sl⟩ => decide (t = "type") && (match cd.mro, sl.toList with
    | .ref C' :: bm, [_, _, _, _, some (.builtin n), _] => decide (C' = C) && (decide (n = "ValueError.__new__") && (!cd.hasDel && (cd.hasDict && PySem.HandSPX.refsVE bm)))
    | _, _ => false)
  | _ => false
theorem oexB_ok {K : PySem.W.Frag} {C : Addr} (h : oexB K C = true) : ∃ nm q N bs bm sn sub ab col dd k0 k1 k2 k3 k5, K.lookup C = some (excClassObj nm q C N bs bm true sn sub ab col dd k0 k1 k2 k3 k5 "ValueError.__new__") ∧ PySem.HandSPX.refsVE bm = true := by
  unfold oexB at h
  split at h
  · rename_i t dd cd sl ho
    obtain ⟨h1, h2⟩ := ba h
    have e1 : t = "type" := of_decide_eq_true h1
    subst e1
    split at h2
    · rename_i C' bm k0 k1 k2 k3 n k5 hm hs
      obtain ⟨a1, h3⟩ := ba h2
      obtain ⟨a2, h4⟩ := ba h3
      obtain ⟨a3, h5⟩ := ba h4
      obtain ⟨a4, a5⟩ := ba h5
      have e2 : C' = C := of_decide_eq_true a1
      have e3 : n = "ValueError.__new__" := of_decide_eq_true a2
      subst e2 e3
      obtain ⟨nm, bs, mro, ns, qn, hdct, sn, sub, ab, col, hdel⟩ := cd
      have e4 : mro = .ref C' :: bm := hm
      have e5 : hdct = true := a4
      have e6 : hdel = false := by
        cases hdel with
        | false => rfl
        | true => cases a3
      have e7 : sl = #[k0, k1, k2, k3, some (.builtin "ValueError.__new__"), k5] := by
        rw [← Array.toArray_toList (xs := sl), hs]
      subst e4 e5 e6 e7
      exact ⟨_, _, _, _, _, _, _, _, _, _, _, _, _, _, _, ho, a5⟩
    · cases h2
  · cases h
def excB (K : PySem.W.Frag) (C : Addr) : Bool := oexB K C && (eqO (PySem.W.findIn K (.ref C) "__setattr__") (some (some (.builtin "object.__setattr__"))) && (decide (PySem.W.subIn K (.ref C) (.type "BaseException") = some true) && (decide (PySem.W.typeIn K (.ref C) = some (.type "type")) && PySem.W.keepIn K (.ref C))))
theorem excB_ok {K : PySem.W.Frag} {C : Addr} (h : excB K C = true) : OexC K C := by
  obtain ⟨a1, h⟩ := ba h
  obtain ⟨a2, h⟩ := ba h
  obtain ⟨a3, h⟩ := ba h
  obtain ⟨a4, a5⟩ := ba h
  exact ⟨oexB_ok a1, eqO_ok a2, of_decide_eq_true a3, of_decide_eq_true a4, a5⟩
def exrB (K : PySem.W.Frag) (C : Addr) : Bool := eqO (PySem.W.findIn K (.ref C) "__getattribute__") (some (some (.builtin "BaseException.__getattribute__"))) && (eqO (PySem.W.findIn K (.ref C) "__getattr__") (some none) && (decide (PySem.W.subIn K (.ref C) (.type "BaseException") = some true) && (PySem.W.hasDictIn K C &&
  (eqO (PySem.W.findIn K (.ref C) "__class__") (some (some (.builtin "object.__class__"))) && (eqO (PySem.W.specialIn K (.builtin "object.__class__") "__get__") (some (some (.builtin "getset_descriptor.__get__"))) && (decide (PySem.W.takesIn K (.builtin "object.__class__") = some true) && decide (PySem.W.mroIn K C (.type "object") = some true)))))))
theorem exrB_ok {K : PySem.W.Frag} {C : Addr} (h : exrB K C = true) : ExR K C := by
  obtain ⟨a1, h⟩ := ba h
  obtain ⟨a2, h⟩ := ba h
  obtain ⟨a3, h⟩ := ba h
  obtain ⟨a4, h⟩ := ba h
  obtain ⟨a5, h⟩ := ba h
  obtain ⟨a6, h⟩ := ba h
  obtain ⟨a7, a8⟩ := ba h
  exact ⟨eqO_ok a1, eqO_ok a2, of_decide_eq_true a3, a4, eqO_ok a5, eqO_ok a6, of_decide_eq_true a7, of_decide_eq_true a8⟩
def iniB (K : PySem.W.Frag) (C : Addr) : Bool := eqO (PySem.W.findIn K (.ref C) "__init__") (some (some (.ref (ma K C "__init__")))) && decide (PySem.W.typeIn K (.ref (ma K C "__init__")) = some (.type "function"))
theorem iniB_ok {K : PySem.W.Frag} {C : Addr} (h : iniB K C = true) : PySem.W.findIn K (.ref C) "__init__" = some (some (.ref (ma K C "__init__"))) ∧ PySem.W.typeIn K (.ref (ma K C "__init__")) = some (.type "function") := by
  obtain ⟨a1, a2⟩ := ba h
  exact ⟨eqO_ok a1, of_decide_eq_true a2⟩
/-- an own error x without a field, with the field fld -/
def err0B (x : Str) (K : PySem.W.Frag) : Bool := excB K (ga K x) && (exrB K (ga K x) && iniB K (ga K x))
def errB (x fld : Str) (K : PySem.W.Frag) : Bool := err0B x K && eqO (PySem.W.findIn K (.ref (ga K x)) fld) (some none)
/-- a value read off a class -/
def clvB (K : PySem.W.Frag) (c : Value) (m : Str) (v : Value) : Bool := match PySem.W.findCls K c (.type "type") m with
  | some (.val u) => decide (u = v)
  | _ => false
theorem clvB_ok {K : PySem.W.Frag} {c : Value} {m : Str} {v : Value} (h : clvB K c m v = true) : PySem.W.findCls K c (.type "type") m = some (.val v) := by
  unfold clvB at h
  split at h
  · rename_i u e
    rw [e, of_decide_eq_true h]
  · cases h
def crdB (K : PySem.W.Frag) (C : Addr) : Bool := PySem.W.readsIn K C (.type "type") && eqO (PySem.W.specialIn K (.ref C) "__getattribute__") (some (some (.builtin "type.__getattribute__")))
theorem crdB_ok {K : PySem.W.Frag} {C : Addr} (h : crdB K C = true) : ClX.CRead K C (.type "type") := by
  obtain ⟨a1, a2⟩ := ba h
  exact ⟨a1, eqO_ok a2⟩
/-- each isinstance of the one kind, by the other -/
def kitB (as bs : List Str) (b : Nat → Nat → Bool) (K : PySem.W.Frag) : Bool := (as.zipIdx).all fun p => (bs.zipIdx).all fun q => decide (PySem.W.kitOne K (.ref (ga K p.1)) (.ref (ga K q.1)) = some (b p.2 q.2))
theorem kitB_ok {as bs : List Str} {b : Nat → Nat → Bool} {K : PySem.W.Frag} (h : kitB as bs b K = true) {i j : Nat} {x y : Str} (hi : as[i]? = some x) (hj : bs[j]? = some y) : PySem.W.kitOne K (.ref (ga K x)) (.ref (ga K y)) = some (b i j) := by
  have h1 := List.all_eq_true.mp h (x, i) (by rw [List.mk_mem_zipIdx_iff_getElem?]; exact hi)
  have h2 := List.all_eq_true.mp h1 (y, j) (by rw [List.mk_mem_zipIdx_iff_getElem?]; exact hj)
  exact of_decide_eq_true h2
def kitVB (as : List Str) (T : String) (b : Bool) (K : PySem.W.Frag) : Bool := as.all fun x => decide (PySem.W.kitOne K (.ref (ga K x)) (.type T) = some b)
theorem kitVB_ok {as : List Str} {T : String} {b : Bool} {K : PySem.W.Frag} (h : kitVB as T b K = true) {x : Str} (hx : x ∈ as) : PySem.W.kitOne K (.ref (ga K x)) (.type T) = some b := of_decide_eq_true (List.all_eq_true.mp h x hx)
end Sl
/-! ## K21i -/
set_option Elab.async false
set_option linter.all false
set_option maxRecDepth 100000
set_option maxHeartbeats 0
namespace Lw
open PySem PySem.Spec PyProof.Rows L2 Sl
def dF (x : Str) (st : Stmt) : He.DefD := ⟨(x, none), x, x, defArgs st, defBody st, defScope st, [], []⟩
def dM (x : Str) (q : Str) (st : Stmt) : He.DefD := ⟨(x, some "__init__"), "__init__", q, defArgs st, defBody st, defScope st, [], []⟩
def fn : List He.DefD := [dF "shown" s_shown, dF "_law_source" s_l_source, dF "_law_draw" s_l_draw, dF "_law_pick" s_l_pick, dF "_law_kinds" s_l_kinds, dF "law" s_law, dM "LotError" "LotError.__init__" s_LotError___init__, dM "BadTable" "BadTable.__init__" s_BadTable___init__, dM "BadStatement" "BadStatement.__init__" s_BadStatement___init__, dM "BadForm" "BadForm.__init__" s_BadForm___init__, dM "BadNumber" "BadNumber.__init__" s_BadNumber___init__, dM "BadTrigger" "BadTrigger.__init__" s_BadTrigger___init__, dM "BadBook" "BadBook.__init__" s_BadBook___init__, dM "BadText" "BadText.__init__" s_BadText___init__, dM "Overlap" "Overlap.__init__" s_Overlap___init__, dM "Unknown" "Unknown.__init__" s_Unknown___init__, dM "BadPicks" "BadPicks.__init__" s_BadPicks___init__, dM "Refused" "Refused.__init__" s_Refused___init__, dM "BadClass" "BadClass.__init__" s_BadClass___init__, dM "Endless" "Endless.__init__" s_Endless___init__, dM "NoDeed" "NoDeed.__init__" s_NoDeed___init__]
def fa : List He.Fa := [.glo "shown", .glo "_law_source", .glo "_law_draw", .glo "_law_pick", .glo "_law_kinds", .glo "law", .glo "LotError", .glo "BadTable", .glo "BadStatement", .glo "BadForm", .glo "BadNumber", .glo "BadTrigger", .glo "BadBook", .glo "BadText", .glo "Overlap", .glo "Unknown", .glo "BadPicks", .glo "Refused", .glo "BadClass", .glo "Endless", .glo "NoDeed", .free "isinstance", .free "str", .free "int", .free "len", .free "range", .free "any", .free "ValueError", .int "MOST_BITS" 1000]
def nms : List Str := ["BadTable", "BadStatement", "BadForm", "BadNumber", "BadTrigger", "BadBook", "BadText", "Overlap", "Unknown", "BadPicks", "Refused", "BadClass", "Endless", "NoDeed"]
def ex : List (PySem.W.Frag → Bool) := [errB "BadTable" "name",
  errB "BadStatement" "kind",
  errB "BadForm" "word",
  errB "BadNumber" "number",
  errB "BadTrigger" "place",
  errB "BadBook" "place",
  errB "BadText" "line",
  errB "Overlap" "kind",
  errB "Unknown" "name",
  errB "BadPicks" "kind",
  errB "Refused" "name",
  errB "BadClass" "index",
  err0B "Endless",
  err0B "NoDeed",
  err0B "LotError",
  fun K => crdB K (He.ga K "LotError"),
  fun K => clvB K (.ref (He.ga K "LotError")) "__init__" (.ref (He.ma K (He.ga K "LotError") "__init__")),
  fun K => clvB K (.type "ValueError") "__init__" (.builtin "ValueError.__init__"),
  kitB nms nms (fun i j => decide (i = j)),
  kitB nms ["LotError"] (fun _ _ => true),
  kitVB nms "ValueError" true,
  kitB ["LotError"] nms (fun _ _ => false),
  kitVB ["LotError"] "ValueError" true]
abbrev R : PySem.W.OpenRow := PySem.W.OpenLaw.row PySem.Challenge.rw_statementlots_k21_errors_made
abbrev hk : PySem.W.Hook := hookS 5 fa fn ex
def ob (s : PySem.W.SharedT) : AlS := obsSG 5 fa fn ex (HandSHeadRun.getT s)
theorem ob_eq (s : PySem.W.SharedT) : ob s = hk.obs s.abs := obsSG_eq (HandSHeadRun.getT_eq s)
abbrev loose : List Str := ["MOST_BITS", "shown", "LotError", "BadTable", "BadStatement", "BadForm", "BadNumber", "BadTrigger", "BadBook", "BadText", "Overlap", "Unknown", "BadPicks", "BadClass", "Refused", "Endless", "NoDeed", "_law_source", "_law_draw", "_law_pick", "_law_kinds"]
end Lw
/-! ## K21r -/
set_option Elab.async false
set_option linter.all false
set_option maxRecDepth 100000
set_option maxHeartbeats 0
namespace Lw
open PySem PySem.Spec PyProof.Rows L2 Sl
theorem run (w : World) : HandSHeadRun.RunEq R (PySem.W.view R.prog [23]) hk ob 5000 loose w := by
  intro os
  kernel_rfl
end Lw
/-! ## K21j -/
set_option Elab.async false
set_option linter.all false
set_option maxRecDepth 100000
set_option maxHeartbeats 4000000
namespace Lw
open PySem PySem.Spec PyProof.Rows L2 Sl
def nm (i : Nat) : Str := nms.getD i "NoDeed"
theorem nm_at {i : Nat} (h : i < 14) : nms[i]? = some (nm i) := by
  rcases lt14 h with e | e | e | e | e | e | e | e | e | e | e | e | e | e <;> subst e <;> rfl
theorem nm_in {i : Nat} (h : i < 14) : nm i ∈ nms := List.mem_of_getElem? (nm_at h)
section
variable {P : Program} {w : World} {K : PySem.W.Frag} {base h : Heap} {mg : Str → Option Value}
theorem err0F_of {x : Str} {fd : FuncData} (g : mg x = some (.ref (He.ga K x))) (b : err0B x K = true)
    (O : FnOk P w K mg base CX0 1 (He.ma K (He.ga K x) "__init__") fd ["self"] (sp_init0 K)) (hb : Binds K fd ["self"] []) : Err0 P w K mg base x (He.ga K x) := by
  obtain ⟨b1, b⟩ := He.ba b
  obtain ⟨b2, b3⟩ := He.ba b
  obtain ⟨i1, i2⟩ := iniB_ok b3
  exact ⟨g, excB_ok b1, exrB_ok b2, _, fd, i1, i2, O, hb⟩
theorem errF_of {x fld : Str} {fd : FuncData} (g : mg x = some (.ref (He.ga K x))) (b : errB x fld K = true)
    (O : FnOk P w K mg base CX0 3 (He.ma K (He.ga K x) "__init__") fd ["self", fld] (sp_init K fld)) (hb : Binds K fd ["self", fld] []) (kb : KBn K fd ["self", fld] 1 [fld] (fun us ws => us ++ ws) (fun vs zs => vs ++ zs)) : ErrF P w K mg base x fld (He.ga K x) := by
  obtain ⟨b0, b4⟩ := He.ba b
  obtain ⟨b1, b⟩ := He.ba b0
  obtain ⟨b2, b3⟩ := He.ba b
  obtain ⟨i1, i2⟩ := iniB_ok b3
  exact ⟨g, excB_ok b1, exrB_ok b2, He.eqO_ok b4, _, fd, i1, i2, O, hb, kb⟩
theorem facts_top (X : K.In h) (G : h.Ns mainGlobals mg) (c : SaysS fa fn ex K) (hbase : True) : Top21 P w K mg base (fun i => He.ga K (nm i)) (He.ga K "LotError") := by
  have d := c.d
  have g := fun (i : Nat) (x : Str) (e : fa[i]? = some (.glo x)) => He.glo_ok X G (d.fact i e)
  have fr := fun (i : Nat) (x : Str) (e : fa[i]? = some (.free x)) => He.free_ok X G (d.fact i e)
  obtain ⟨tB, mB⟩ := He.int_ok X G (d.fact 28 (f := .int "MOST_BITS" 1000) rfl)
  have m_isinstance := fr 21 "isinstance" rfl
  have m_str := fr 22 "str" rfl
  have m_int := fr 23 "int" rfl
  have m_len := fr 24 "len" rfl
  have m_range := fr 25 "range" rfl
  have m_any := fr 26 "any" rfl
  have m_ValueError := fr 27 "ValueError" rfl
  have g_shown := g 0 "shown" rfl
  have g__law_source := g 1 "_law_source" rfl
  have g__law_draw := g 2 "_law_draw" rfl
  have g__law_pick := g 3 "_law_pick" rfl
  have g__law_kinds := g 4 "_law_kinds" rfl
  have g_law := g 5 "law" rfl
  have g_LotError := g 6 "LotError" rfl
  have g_BadTable := g 7 "BadTable" rfl
  have g_BadStatement := g 8 "BadStatement" rfl
  have g_BadForm := g 9 "BadForm" rfl
  have g_BadNumber := g 10 "BadNumber" rfl
  have g_BadTrigger := g 11 "BadTrigger" rfl
  have g_BadBook := g 12 "BadBook" rfl
  have g_BadText := g 13 "BadText" rfl
  have g_Overlap := g 14 "Overlap" rfl
  have g_Unknown := g 15 "Unknown" rfl
  have g_BadPicks := g 16 "BadPicks" rfl
  have g_Refused := g 17 "Refused" rfl
  have g_BadClass := g 18 "BadClass" rfl
  have g_Endless := g 19 "Endless" rfl
  have g_NoDeed := g 20 "NoDeed" rfl
  obtain ⟨fd_shown, F_shown⟩ := d.def_ 0 (d := dF "shown" s_shown) rfl
  obtain ⟨fd__law_source, F__law_source⟩ := d.def_ 1 (d := dF "_law_source" s_l_source) rfl
  obtain ⟨fd__law_draw, F__law_draw⟩ := d.def_ 2 (d := dF "_law_draw" s_l_draw) rfl
  obtain ⟨fd__law_pick, F__law_pick⟩ := d.def_ 3 (d := dF "_law_pick" s_l_pick) rfl
  obtain ⟨fd__law_kinds, F__law_kinds⟩ := d.def_ 4 (d := dF "_law_kinds" s_l_kinds) rfl
  obtain ⟨fd_L, F_L⟩ := d.def_ 6 (d := dM "LotError" "LotError.__init__" s_LotError___init__) rfl
  obtain ⟨fd_BadTable, F_BadTable⟩ := d.def_ 7 (d := dM "BadTable" "BadTable.__init__" s_BadTable___init__) rfl
  obtain ⟨fd_BadStatement, F_BadStatement⟩ := d.def_ 8 (d := dM "BadStatement" "BadStatement.__init__" s_BadStatement___init__) rfl
  obtain ⟨fd_BadForm, F_BadForm⟩ := d.def_ 9 (d := dM "BadForm" "BadForm.__init__" s_BadForm___init__) rfl
  obtain ⟨fd_BadNumber, F_BadNumber⟩ := d.def_ 10 (d := dM "BadNumber" "BadNumber.__init__" s_BadNumber___init__) rfl
  obtain ⟨fd_BadTrigger, F_BadTrigger⟩ := d.def_ 11 (d := dM "BadTrigger" "BadTrigger.__init__" s_BadTrigger___init__) rfl
  obtain ⟨fd_BadBook, F_BadBook⟩ := d.def_ 12 (d := dM "BadBook" "BadBook.__init__" s_BadBook___init__) rfl
  obtain ⟨fd_BadText, F_BadText⟩ := d.def_ 13 (d := dM "BadText" "BadText.__init__" s_BadText___init__) rfl
  obtain ⟨fd_Overlap, F_Overlap⟩ := d.def_ 14 (d := dM "Overlap" "Overlap.__init__" s_Overlap___init__) rfl
  obtain ⟨fd_Unknown, F_Unknown⟩ := d.def_ 15 (d := dM "Unknown" "Unknown.__init__" s_Unknown___init__) rfl
  obtain ⟨fd_BadPicks, F_BadPicks⟩ := d.def_ 16 (d := dM "BadPicks" "BadPicks.__init__" s_BadPicks___init__) rfl
  obtain ⟨fd_Refused, F_Refused⟩ := d.def_ 17 (d := dM "Refused" "Refused.__init__" s_Refused___init__) rfl
  obtain ⟨fd_BadClass, F_BadClass⟩ := d.def_ 18 (d := dM "BadClass" "BadClass.__init__" s_BadClass___init__) rfl
  obtain ⟨fd_Endless, F_Endless⟩ := d.def_ 19 (d := dM "Endless" "Endless.__init__" s_Endless___init__) rfl
  obtain ⟨fd_NoDeed, F_NoDeed⟩ := d.def_ 20 (d := dM "NoDeed" "NoDeed.__init__" s_NoDeed___init__) rfl
  have shn : Cal P w K mg base 1 "shown" [] sp_shown := ⟨_, fd_shown, ["field"], [], g_shown, F_shown.kp, ok_shown F_shown m_isinstance m_str m_int mB, F_shown.bindsN (fun _ _ _ _ _ _ us hl => match us, hl with | [_], _ => rfl), .nil⟩
  have src : Cal P w K mg base 1 "_law_source" [] (sp_source K) := ⟨_, fd__law_source, ["_law_script"], [], g__law_source, F__law_source.kp, ok_source F__law_source m_int, F__law_source.bindsN (fun _ _ _ _ _ _ us hl => match us, hl with | [_], _ => rfl), .nil⟩
  have drw : Cal P w K mg base 1 "_law_draw" [] sp_draw := ⟨_, fd__law_draw, ["_law_source_here", "_law_many"], [], g__law_draw, F__law_draw.kp, ok_draw F__law_draw m_int, F__law_draw.bindsN (fun _ _ _ _ _ _ us hl => match us, hl with | [_, _], _ => rfl), .nil⟩
  have pck : Cal P w K mg base 2 "_law_pick" [] (sp_pick K) := ⟨_, fd__law_pick, ["_law_source_here", "_law_things"], [], g__law_pick, F__law_pick.kp, ok_pick F__law_pick drw m_len, F__law_pick.bindsN (fun _ _ _ _ _ _ us hl => match us, hl with | [_, _], _ => rfl), .nil⟩
  have c14 : Cls14 K mg (fun i => He.ga K (nm i)) := ⟨g_BadTable, g_BadStatement, g_BadForm, g_BadNumber, g_BadTrigger, g_BadBook, g_BadText, g_Overlap, g_Unknown, g_BadPicks, g_Refused, g_BadClass, g_Endless, g_NoDeed⟩
  have knd : Cal P w K mg base 1 "_law_kinds" [] (sp_kinds K fun i => He.ga K (nm i)) := ⟨_, fd__law_kinds, ["_law_e"], [], g__law_kinds, F__law_kinds.kp, ok_kinds F__law_kinds c14 m_isinstance, F__law_kinds.bindsN (fun _ _ _ _ _ _ us hl => match us, hl with | [_], _ => rfl), .nil⟩
  have vV := clvB_ok (c.x 17 (e := fun K => clvB K (.type "ValueError") "__init__" (.builtin "ValueError.__init__")) rfl)
  have OL : FnOk P w K mg base CX0 2 _ fd_L ["self", "field"] (sp_lot K) := ok_lot F_L shn m_ValueError vV
  have bL : Binds K fd_L ["self", "field"] [] := F_L.bindsN (fun _ _ _ _ _ _ us hl => match us, hl with | [_, _], _ => rfl)
  have lot : LotC P w K mg base (He.ga K "LotError") := ⟨g_LotError, crdB_ok (c.x 15 (e := fun K => crdB K (He.ga K "LotError")) rfl), _, fd_L, clvB_ok (c.x 16 (e := fun K => clvB K (.ref (He.ga K "LotError")) "__init__" (.ref (He.ma K (He.ga K "LotError") "__init__"))) rfl), F_L.kp, OL, bL⟩
  obtain ⟨l1, l⟩ := He.ba (c.x 14 (e := err0B "LotError") rfl)
  obtain ⟨l2, l3⟩ := He.ba l
  obtain ⟨i1, i2⟩ := iniB_ok l3
  have e_BadTable : ErrF P w K mg base "BadTable" "name" (He.ga K "BadTable") := errF_of g_BadTable (c.x 0 (e := errB "BadTable" "name") rfl) (ok_BadTable F_BadTable lot) (F_BadTable.bindsN (fun _ _ _ _ _ _ us hl => match us, hl with | [_, _], _ => rfl)) (kbn_self F_BadTable fun _ _ _ _ _ _ us ws h1 h2 => match us, h1, ws, h2 with | [_], _, [_], _ => rfl)
  have e_BadStatement : ErrF P w K mg base "BadStatement" "kind" (He.ga K "BadStatement") := errF_of g_BadStatement (c.x 1 (e := errB "BadStatement" "kind") rfl) (ok_BadStatement F_BadStatement lot) (F_BadStatement.bindsN (fun _ _ _ _ _ _ us hl => match us, hl with | [_, _], _ => rfl)) (kbn_self F_BadStatement fun _ _ _ _ _ _ us ws h1 h2 => match us, h1, ws, h2 with | [_], _, [_], _ => rfl)
  have e_BadForm : ErrF P w K mg base "BadForm" "word" (He.ga K "BadForm") := errF_of g_BadForm (c.x 2 (e := errB "BadForm" "word") rfl) (ok_BadForm F_BadForm lot) (F_BadForm.bindsN (fun _ _ _ _ _ _ us hl => match us, hl with | [_, _], _ => rfl)) (kbn_self F_BadForm fun _ _ _ _ _ _ us ws h1 h2 => match us, h1, ws, h2 with | [_], _, [_], _ => rfl)
  have e_BadNumber : ErrF P w K mg base "BadNumber" "number" (He.ga K "BadNumber") := errF_of g_BadNumber (c.x 3 (e := errB "BadNumber" "number") rfl) (ok_BadNumber F_BadNumber lot) (F_BadNumber.bindsN (fun _ _ _ _ _ _ us hl => match us, hl with | [_, _], _ => rfl)) (kbn_self F_BadNumber fun _ _ _ _ _ _ us ws h1 h2 => match us, h1, ws, h2 with | [_], _, [_], _ => rfl)
  have e_BadTrigger : ErrF P w K mg base "BadTrigger" "place" (He.ga K "BadTrigger") := errF_of g_BadTrigger (c.x 4 (e := errB "BadTrigger" "place") rfl) (ok_BadTrigger F_BadTrigger lot) (F_BadTrigger.bindsN (fun _ _ _ _ _ _ us hl => match us, hl with | [_, _], _ => rfl)) (kbn_self F_BadTrigger fun _ _ _ _ _ _ us ws h1 h2 => match us, h1, ws, h2 with | [_], _, [_], _ => rfl)
  have e_BadBook : ErrF P w K mg base "BadBook" "place" (He.ga K "BadBook") := errF_of g_BadBook (c.x 5 (e := errB "BadBook" "place") rfl) (ok_BadBook F_BadBook lot) (F_BadBook.bindsN (fun _ _ _ _ _ _ us hl => match us, hl with | [_, _], _ => rfl)) (kbn_self F_BadBook fun _ _ _ _ _ _ us ws h1 h2 => match us, h1, ws, h2 with | [_], _, [_], _ => rfl)
  have e_BadText : ErrF P w K mg base "BadText" "line" (He.ga K "BadText") := errF_of g_BadText (c.x 6 (e := errB "BadText" "line") rfl) (ok_BadText F_BadText lot) (F_BadText.bindsN (fun _ _ _ _ _ _ us hl => match us, hl with | [_, _], _ => rfl)) (kbn_self F_BadText fun _ _ _ _ _ _ us ws h1 h2 => match us, h1, ws, h2 with | [_], _, [_], _ => rfl)
  have e_Overlap : ErrF P w K mg base "Overlap" "kind" (He.ga K "Overlap") := errF_of g_Overlap (c.x 7 (e := errB "Overlap" "kind") rfl) (ok_Overlap F_Overlap lot) (F_Overlap.bindsN (fun _ _ _ _ _ _ us hl => match us, hl with | [_, _], _ => rfl)) (kbn_self F_Overlap fun _ _ _ _ _ _ us ws h1 h2 => match us, h1, ws, h2 with | [_], _, [_], _ => rfl)
  have e_Unknown : ErrF P w K mg base "Unknown" "name" (He.ga K "Unknown") := errF_of g_Unknown (c.x 8 (e := errB "Unknown" "name") rfl) (ok_Unknown F_Unknown lot) (F_Unknown.bindsN (fun _ _ _ _ _ _ us hl => match us, hl with | [_, _], _ => rfl)) (kbn_self F_Unknown fun _ _ _ _ _ _ us ws h1 h2 => match us, h1, ws, h2 with | [_], _, [_], _ => rfl)
  have e_BadPicks : ErrF P w K mg base "BadPicks" "kind" (He.ga K "BadPicks") := errF_of g_BadPicks (c.x 9 (e := errB "BadPicks" "kind") rfl) (ok_BadPicks F_BadPicks lot) (F_BadPicks.bindsN (fun _ _ _ _ _ _ us hl => match us, hl with | [_, _], _ => rfl)) (kbn_self F_BadPicks fun _ _ _ _ _ _ us ws h1 h2 => match us, h1, ws, h2 with | [_], _, [_], _ => rfl)
  have e_Refused : ErrF P w K mg base "Refused" "name" (He.ga K "Refused") := errF_of g_Refused (c.x 10 (e := errB "Refused" "name") rfl) (ok_Refused F_Refused lot) (F_Refused.bindsN (fun _ _ _ _ _ _ us hl => match us, hl with | [_, _], _ => rfl)) (kbn_self F_Refused fun _ _ _ _ _ _ us ws h1 h2 => match us, h1, ws, h2 with | [_], _, [_], _ => rfl)
  have e_BadClass : ErrF P w K mg base "BadClass" "index" (He.ga K "BadClass") := errF_of g_BadClass (c.x 11 (e := errB "BadClass" "index") rfl) (ok_BadClass F_BadClass lot) (F_BadClass.bindsN (fun _ _ _ _ _ _ us hl => match us, hl with | [_, _], _ => rfl)) (kbn_self F_BadClass fun _ _ _ _ _ _ us ws h1 h2 => match us, h1, ws, h2 with | [_], _, [_], _ => rfl)
  have e_Endless : Err0 P w K mg base "Endless" (He.ga K "Endless") := err0F_of g_Endless (c.x 12 (e := err0B "Endless") rfl) (ok_Endless F_Endless) (F_Endless.bindsN (fun _ _ _ _ _ _ us hl => match us, hl with | [_], _ => rfl))
  have e_NoDeed : Err0 P w K mg base "NoDeed" (He.ga K "NoDeed") := err0F_of g_NoDeed (c.x 13 (e := err0B "NoDeed") rfl) (ok_NoDeed F_NoDeed) (F_NoDeed.bindsN (fun _ _ _ _ _ _ us hl => match us, hl with | [_], _ => rfl))
  exact {
    src := src, pick := pck, kinds := knd,
    e0 := e_BadTable,
    e1 := e_BadStatement,
    e2 := e_BadForm,
    e3 := e_BadNumber,
    e4 := e_BadTrigger,
    e5 := e_BadBook,
    e6 := e_BadText,
    e7 := e_Overlap,
    e8 := e_Unknown,
    e9 := e_BadPicks,
    e10 := e_Refused,
    e11 := e_BadClass,
    e12 := e_Endless,
    e13 := e_NoDeed,
    lg := g_LotError, lT := excB_ok l1, lR := exrB_ok l2, lex := ⟨_, fd_L, i1, i2, OL, bL⟩,
    kM := fun i j hi hj => kitB_ok (c.x 18 (e := kitB nms nms (fun i j => decide (i = j))) rfl) (nm_at hi) (nm_at hj),
    kL := fun i hi => kitB_ok (c.x 19 (e := kitB nms ["LotError"] (fun _ _ => true)) rfl) (nm_at hi) (j := 0) rfl,
    kV := fun i hi => kitVB_ok (c.x 20 (e := kitVB nms "ValueError" true) rfl) (nm_in hi),
    lM := fun j hj => kitB_ok (c.x 21 (e := kitB ["LotError"] nms (fun _ _ => false)) rfl) (i := 0) rfl (nm_at hj),
    lV := kitVB_ok (c.x 22 (e := kitVB ["LotError"] "ValueError" true) rfl) (List.mem_singleton.mpr rfl),
    mI := m_isinstance, mLen := m_len, mR := m_range, mA := m_any, mV := m_ValueError }
end
end Lw
/-! ## K21z -/
set_option Elab.async false
set_option linter.all false
set_option maxRecDepth 100000
set_option maxHeartbeats 0
open PySem PySem.W PySem.Calls PyProof.Rows
theorem PySem.Challenge.cw_statementlots_k21_errors_made_holds : PySem.Challenge.rw_statementlots_k21_errors_made.Holds := by
  w_on; o_law
  refine HandSHeadRun.head_any (r := OpenLaw.row PySem.Challenge.rw_statementlots_k21_errors_made) (q := view (OpenLaw.row PySem.Challenge.rw_statementlots_k21_errors_made).prog [23]) (H := Lw.hk) (ob := Lw.ob) (M := 5000) (loose := Lw.loose) (d := HandSHeadRun.topDef (OpenLaw.row PySem.Challenge.rw_statementlots_k21_errors_made).prog 23) (kwd := []) Lw.ob_eq
    (by kernel_rfl) (fun s => by kernel_rfl) Lw.run (by kernel_rfl) (by kernel_rfl) (by kernel_rfl) (by rfl) (by first | assumption | decide +kernel) (by decide +kernel) ⟨rfl, rfl, rfl, rfl, rfl, by decide +kernel⟩ ?hw ?hc
  case hw => w_witness2
  case hc =>
    refine L2.walk_ofE (l := PySem.Challenge.rw_statementlots_k21_errors_made) (n := 63) (k := 5) (x := "_law_script") (CX := L2.CX0) rfl (by decide) (by kernel_rfl) ⟨rfl, by decide, by decide⟩ ?F (fun _ _ _ _ z => z)
    intro w mg fa h Y G hmg0
    obtain ⟨K, KX, c⟩ := Y
    have hmg : mg ("law" : PySem.Str) = some (.ref fa) := by
      have e : (HandSHeadRun.topDef (OpenLaw.row PySem.Challenge.rw_statementlots_k21_errors_made).prog 23).name = ("law" : PySem.Str) := by kernel_rfl
      rw [← e]
      exact hmg0
    obtain ⟨fd, F⟩ := c.d.def_ 5 (d := Lw.dF "law" Lw.s_law) rfl
    have e := hmg.symm.trans (He.glo_ok KX G (c.d.fact 5 (f := .glo "law") rfl))
    cases e
    have b := L2.FunD.bindsA (ps := ["_law_script"]) F fun _ _ _ _ _ _ us hl => match us, hl with | [_], _ => rfl
    exact ⟨K, fd, Lw.sp_law K, KX, fun s v => b s [v] rfl, fun H a ns hl _ hS => ⟨a, ns, rfl, hS, hl, fun _ => rfl⟩, fun base _ _ => Lw.ok_law F (Lw.facts_top KX G c trivial)⟩
#print axioms PySem.Challenge.cw_statementlots_k21_errors_made_holds
